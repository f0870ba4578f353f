/- Which of two rows is below (the document's). -/
import Derived.Test.YtkfcpmmiimpkbaaQG
namespace Go.Proofs.Ytkfcpmmiimpkbaa
open Go.RowKit
set_option linter.unusedSimpArgs false
set_option linter.unusedVariables false
/-- Is a list of texts below another, text by text, as far as both reach? -/
def lessL : List ByteArray → List ByteArray → Bool
  | a :: l, b :: m => if a = b then lessL l m else decide (ltT a b)
  | _, _ => false
def lessK (t u : Int) (L M : List ByteArray) : Bool := if t = u then lessL L M else decide (t < u)
theorem lessL_nil_left (M : List ByteArray) : lessL [] M = false := rfl
theorem lessL_nil_right (L : List ByteArray) : lessL L [] = false := by cases L <;> rfl
theorem lessL_drop (L M : List ByteArray) (k : Nat) (h : L.take k = M.take k) (h1 : k ≤ L.length) (h2 : k ≤ M.length) : lessL L M = lessL (L.drop k) (M.drop k) := by
  induction k generalizing L M with
  | zero => rfl
  | succ k ih =>
    match L, M, h1, h2 with
    | a :: L, b :: M, h1, h2 =>
      rw [List.take_succ_cons, List.take_succ_cons] at h
      obtain ⟨e, h3⟩ := List.cons.inj h
      subst e
      rw [lessL, if_pos rfl]
      exact ih L M h3 (by simpa using h1) (by simpa using h2)
theorem lessL_cmpL (L M : List ByteArray) (h : L.length = M.length) : lessL L M = decide (cmpL L M < 0) := by
  induction L generalizing M with
  | nil => match M, h with | [], _ => rfl
  | cons a L ih =>
    match M, h with
    | b :: M, h =>
      rw [lessL, cmpL]
      by_cases e : a = b
      · rw [if_pos e, if_pos (cmpT_zero.2 e)]; exact ih M (by simpa using h)
      · rw [if_neg e, if_neg (fun k => e (cmpT_zero.1 k))]
        unfold cmpT
        by_cases l : ltT a b
        · rw [if_pos l]; simp [l]
        · rw [if_neg l]
          by_cases r : ltT b a
          · rw [if_pos r]; simp [l]
          · rw [if_neg r]; simp [l]
theorem lessK_cmpK (t u : Int) (L M : List ByteArray) (h : L.length = M.length) : lessK t u L M = decide (cmpK t u L M < 0) := by
  unfold lessK cmpK cmpI
  by_cases e : t = u
  · subst e
    rw [if_pos rfl, if_neg (Int.lt_irrefl _), if_neg (Int.lt_irrefl _), if_pos rfl, lessL_cmpL L M h]
  · rw [if_neg e]
    by_cases l : t < u
    · rw [if_pos l, if_neg (by decide)]; simp [l]
    · rw [if_neg l, if_pos (show u < t by omega), if_neg (by decide)]; simp [l]
set_option maxRecDepth 100000 in
set_option maxHeartbeats 8000000 in
theorem less_any (t u k0 j : Int) (A B G H : Option Addr) (n c m d gn gc hn' hc' : Nat) (L M : List ByteArray) (w : World) (hA : Row w A (texts L)) (hB : Row w B (texts M)) (hn : n = L.length) (hm : m = M.length) (hn2 : n ≤ 9223372036854775807) (hm2 : m ≤ 9223372036854775807) :
    Calls Try.prog 37 #[.agg #[.int .i64 t, .slice A n c, .int .i64 k0, .slice G gn gc], .agg #[.int .i64 u, .slice B m d, .int .i64 j, .slice H hn' hc']] w fun e w' => e = .returned (.bool (lessK t u L M)) ∧ Below w.heap.size w w' := by
  obtain ⟨W1, hW1⟩ : ∃ W1, W1 = (w.alloc (.cells #[.int .i64 t, .slice A n c, .int .i64 k0, .slice G gn gc] 45)).alloc (.cells #[.int .i64 u, .slice B m d, .int .i64 j, .slice H hn' hc'] 45) := ⟨_, rfl⟩
  have hb1 : Below w.heap.size w W1 := by rw [hW1]; exact bpush (bpush (Below.refl _ _) _) _
  have HB1 := Lib.hid hb1
  have HA := Lib.hid (hA.keep (Nat.le_refl _) hb1)
  have HB := Lib.hid (hB.keep (Nat.le_refl _) hb1)
  have s0 : W1.cell? ⟨w.heap.size, 0, none⟩ = some (.int .i64 t) := by rw [hW1]; exact cell_on (bpush (Below.refl _ _) _) (cell_made rfl rfl)
  have s1 : W1.cell? ⟨w.heap.size, 1, none⟩ = some (.slice A n c) := by rw [hW1]; exact cell_on (bpush (Below.refl _ _) _) (cell_made rfl rfl)
  have c0 : W1.cell? ⟨w.heap.size + 1, 0, none⟩ = some (.int .i64 u) := by rw [hW1]; exact cell_made (by simp) rfl
  have c1 : W1.cell? ⟨w.heap.size + 1, 1, none⟩ = some (.slice B m d) := by rw [hW1]; exact cell_made (by simp) rfl
  have HW1 := Lib.hid hW1
  have HN := Lib.hid hn
  have HM := Lib.hid hm
  obtain ⟨r, hr⟩ : ∃ r : Bool, r = lessK t u L M := ⟨_, rfl⟩
  rw [← hr]
  have HR := Lib.hid hr
  clear hA hB hn hm hW1 hb1 hr
  by_cases htu : t = u
  · have HL := Lib.hid (show r = lessL L M by rw [HR.out]; unfold lessK; rw [if_pos htu])
    subst htu
    go_enter Try.func37, Try.ntmps37
    go_wp2_with fail
    rw [← HW1.out]
    clear HW1
    go_loopw [5] (fun i wr => ∃ k : Nat, i = .int .i64 (k : Int) ∧ k ≤ n ∧ k ≤ m ∧ Hid (L.take k = M.take k) ∧ Hid (Below W1.heap.size W1 wr)) (fun i _ => n - (intOf i).toNat)
    case atStart => exact ⟨0, rfl, by omega, by omega, Lib.hid rfl, Lib.hid (Below.refl _ _)⟩
    case round =>
      obtain ⟨k, rfl, hk, hkm, HT, HBW⟩ := hrel
      have q0 := cell_on HBW.out s1
      have q1 := cell_on HBW.out c1
      have HD := Lib.hid (lessL_drop L M k HT.out (by have := HN.out; omega) (by have := HM.out; omega))
      by_cases hlt : k < n
      · have hki : (k : Int) < (n : Int) := by omega
        have hk0 : (0 : Int) ≤ (k : Int) := by omega
        have hkL : k < L.length := by have := HN.out; omega
        by_cases hlm : k < m
        · have hkm2 : (k : Int) < (m : Int) := by omega
          have hkM : k < M.length := by have := HM.out; omega
          obtain ⟨b1, o1, hA1, x0⟩ := text_cell (HA.out.keep (Nat.le_refl _) HBW.out) hkL
          obtain ⟨b2, o2, hA2, y0⟩ := text_cell (HB.out.keep (Nat.le_refl _) HBW.out) hkM
          obtain ⟨x, hx⟩ : ∃ x, x = L[k] := ⟨_, rfl⟩
          obtain ⟨y, hy⟩ : ∃ y, y = M[k] := ⟨_, rfl⟩
          rw [← hx] at x0
          rw [← hy] at y0
          subst hA1 hA2
          have HDD := Lib.hid (show r = if x = y then lessL (L.drop (k + 1)) (M.drop (k + 1)) else decide (ltT x y) by
            rw [HL.out, HD.out, List.drop_eq_getElem_cons hkL, List.drop_eq_getElem_cons hkM, lessL, ← hx, ← hy])
          have HST := Lib.hid (show x = y → L.take (k + 1) = M.take (k + 1) from fun e => by
            rw [take_snoc L k hkL, take_snoc M k hkM, HT.out, ← hx, ← hy, e])
          clear hx hy hlt hlm
          by_cases hxy : x = y
          · have HE := Lib.hid (HST.out hxy)
            subst hxy
            go_wp2_with fail
            go_quiet (fail)
            go_wp2_with fail
            go_roundw
            case rel => exact ⟨k + 1, by go_num, by omega, by omega, HE, Lib.hid (below_drewN HBW.out _)⟩
            case measure => simp [intOf]; omega
          · have HF := Lib.hid (show r = Op.bytesLess x.toList y.toList by rw [HDD.out, if_neg hxy, less_bool])
            have hne := str_ne hxy
            clear hxy
            go_wp2_with fail
            go_quiet (fail)
            go_wp2_with fail
            go_quiet (fail)
            go_wp2_with fail
            go_ret
            exact ⟨by rw [HF.out]; first | rfl | simp, bthen HB1.out (below_drewN (below_drewN HBW.out _) _)⟩
        · have hkm2 : ¬ (k : Int) < (m : Int) := by omega
          have HF := Lib.hid (show r = false by
            rw [HL.out, HD.out, show M.drop k = [] from List.drop_eq_nil_of_le (by have := HM.out; omega), lessL_nil_right])
          clear hlt hlm
          go_wp2_with fail
          go_ret
          exact ⟨by rw [HF.out]; first | rfl | simp, bthen HB1.out HBW.out⟩
      · have hki : ¬ (k : Int) < (n : Int) := by omega
        have HF := Lib.hid (show r = false by
          rw [HL.out, HD.out, show L.drop k = [] from List.drop_eq_nil_of_le (by have := HN.out; omega), lessL_nil_left])
        clear hlt
        go_wp2_with fail
        go_ret
        exact ⟨by rw [HF.out]; first | rfl | simp, bthen HB1.out HBW.out⟩
  · have HL := Lib.hid (show r = decide (t < u) by rw [HR.out]; unfold lessK; rw [if_neg htu])
    have hne : (t == u) = false := beq_eq_false_iff_ne.2 htu
    go_enter Try.func37, Try.ntmps37
    go_wp2_with fail
    rw [← HW1.out]
    clear HW1
    go_ret
    exact ⟨by rw [HL.out]; first | rfl | simp, HB1.out⟩
end Go.Proofs.Ytkfcpmmiimpkbaa
