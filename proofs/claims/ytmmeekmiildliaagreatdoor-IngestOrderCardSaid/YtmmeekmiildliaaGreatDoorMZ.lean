/- Whether two lists of texts are one; two rows of one key (the document's). Which of two rows is below (the document's). Lists of aggs: their cells; whether two are one, on both sides. Are two rows one (the document's). Lists of rows; are two one (the document's). Are two rows one (the code's). Are two lists of rows one (the code's). Is a list of rows sorted: on both sides. A row's values: whether one is no value (the code's). A row's aggs: whether one is not right (the code's). Is a row right (the code's). Is a row right (the document's). -/
import Derived.Test.YtmmeekmiildliaaGreatDoorMQ
import Derived.Deep.QuietTactic
import Derived.BigQuiet
namespace Go.Proofs.YtmmeekmiildliaaGreatDoor
open Go.RowKit
set_option linter.unusedSimpArgs false
set_option linter.unusedVariables false
set_option maxRecDepth 100000 in
set_option maxHeartbeats 4000000 in
theorem sametexts_any (A B : Option Addr) (n c m d : Nat) (L M : List ByteArray) (w : World) (hA : Row w A (texts L)) (hB : Row w B (texts M)) (hn : n = L.length) (hm : m = M.length) (hn2 : n ≤ 9223372036854775807) (hm2 : m ≤ 9223372036854775807) (r : Bool) (hr : r = true ↔ L = M) :
    Calls Tryz.prog 111 #[.slice A n c, .slice B m d] w fun e w' => e = .returned (.bool r) ∧ Below w.heap.size w w' := by
  have HA := Lib.hid hA
  have HB := Lib.hid hB
  have HN := Lib.hid hn
  have HM := Lib.hid hm
  have HR := Lib.hid hr
  clear hA hB hn hm hr
  by_cases hnm : n = m
  · subst hnm
    go_enter Tryz.func111, Tryz.ntmps111
    go_wp2_with fail
    go_loopw [5] (fun i wr => ∃ k : Nat, k ≤ n ∧ i = .int .i64 k ∧ Hid (L.take k = M.take k) ∧ Hid (Below w.heap.size w wr)) (fun i _ => n - (intOf i).toNat)
    case atStart => exact ⟨0, Nat.zero_le _, rfl, Lib.hid (by simp), Lib.hid (Below.refl _ _)⟩
    case round =>
      obtain ⟨k, hk, rfl, HK, HBW⟩ := hrel
      by_cases hlt : k < n
      · have hkz : k < L.length := by have := HN.out; omega
        have hkm : k < M.length := by have := HM.out; omega
        have hki : (k : Int) < (n : Int) := by omega
        have hk0 : (0 : Int) ≤ (k : Int) := by omega
        obtain ⟨b1, o1, hA1, c1⟩ := text_cell (HA.out.keep (Nat.le_refl _) HBW.out) hkz
        obtain ⟨b2, o2, hA2, c2⟩ := text_cell (HB.out.keep (Nat.le_refl _) HBW.out) hkm
        obtain ⟨s, hs⟩ : ∃ s, s = L[k] := ⟨_, rfl⟩
        obtain ⟨t, ht⟩ : ∃ t, t = M[k] := ⟨_, rfl⟩
        rw [← hs] at c1
        rw [← ht] at c2
        subst hA1 hA2
        have HST := Lib.hid (show s = t → L.take (k + 1) = M.take (k + 1) from fun e => by
          rw [take_snoc L k hkz, take_snoc M k hkm, HK.out, ← hs, ← ht, e])
        have HNE := Lib.hid (show s ≠ t → L ≠ M from fun h e => by
          apply h; rw [hs, ht]; subst e; rfl)
        clear hs ht
        by_cases hst : s = t
        · have HK2 := Lib.hid (HST.out hst)
          subst hst
          clear hlt
          go_wp2_with fail
          go_quiet (fail)
          go_wp2_with fail
          go_roundw
          case rel => exact ⟨k + 1, by omega, by go_num, HK2, Lib.hid (below_drewN HBW.out _)⟩
          case measure => simp [intOf]; omega
        · obtain rfl : r = false := by
            cases r with
            | false => rfl
            | true => exact absurd (HR.out.1 rfl) (HNE.out hst)
          have hne := str_ne hst
          clear hlt hst
          go_wp2_with fail
          go_quiet (fail)
          go_wp2_with fail
          go_ret
          exact ⟨rfl, below_drewN HBW.out _⟩
      · have hge : ¬ (k : Int) < (n : Int) := by omega
        obtain rfl : r = true := HR.out.2 (by
          have := HK.out
          rw [List.take_of_length_le (by have := HN.out; omega), List.take_of_length_le (by have := HM.out; omega)] at this
          exact this)
        clear hlt
        go_wp2_with fail
        go_ret
        exact ⟨rfl, HBW.out⟩
  · obtain rfl : r = false := by
      cases r with
      | false => rfl
      | true => have := HR.out.1 rfl; have h1 := HN.out; have h2 := HM.out; rw [this] at h1; omega
    have d1 : ((n : Int) == (m : Int)) = false := by rw [beq_eq_false_iff_ne]; omega
    have d2 : ((n : Int) != (m : Int)) = true := by rw [bne, d1]; rfl
    clear hnm
    go_enter Tryz.func111, Tryz.ntmps111
    go_wp2_with fail
    go_ret
    exact ⟨rfl, Below.refl _ _⟩
set_option maxRecDepth 100000 in
set_option maxHeartbeats 4000000 in
theorem onekey_any (t u k j : Int) (A B G H : Option Addr) (n c m d gn gc hn' hc' : Nat) (L M : List ByteArray) (w : World) (hA : Row w A (texts L)) (hB : Row w B (texts M)) (hn : n = L.length) (hm : m = M.length) (hn2 : n ≤ 9223372036854775807) (hm2 : m ≤ 9223372036854775807) (r : Bool) (hr : r = true ↔ L = M ∧ t = u) :
    Calls Tryz.prog 84 #[.agg #[.int .i64 t, .slice A n c, .int .i64 k, .slice G gn gc], .agg #[.int .i64 u, .slice B m d, .int .i64 j, .slice H hn' hc']] w fun e w' => e = .returned (.bool r) ∧ Below w.heap.size w w' := by
  obtain ⟨q, hq⟩ : ∃ q : Bool, q = true ↔ L = M := by
    by_cases h : L = M
    · exact ⟨true, by simp [h]⟩
    · exact ⟨false, by simp [h]⟩
  obtain ⟨W1, hW1⟩ : ∃ W1, W1 = (w.alloc (.cells #[.int .i64 t, .slice A n c, .int .i64 k, .slice G gn gc] 59)).alloc (.cells #[.int .i64 u, .slice B m d, .int .i64 j, .slice H hn' hc'] 59) := ⟨_, rfl⟩
  have hb1 : Below w.heap.size w W1 := by rw [hW1]; exact bpush (bpush (Below.refl _ _) _) _
  have HB1 := Lib.hid hb1
  have HA := Lib.hid (hA.keep (Nat.le_refl _) hb1)
  have HB := Lib.hid (hB.keep (Nat.le_refl _) hb1)
  have s0 : W1.cell? ⟨w.heap.size, 0, none⟩ = some (.int .i64 t) := by rw [hW1]; exact cell_on (bpush (Below.refl _ _) _) (cell_made rfl rfl)
  have s1 : W1.cell? ⟨w.heap.size, 1, none⟩ = some (.slice A n c) := by rw [hW1]; exact cell_on (bpush (Below.refl _ _) _) (cell_made rfl rfl)
  have c0 : W1.cell? ⟨w.heap.size + 1, 0, none⟩ = some (.int .i64 u) := by rw [hW1]; exact cell_made (by simp) rfl
  have c1 : W1.cell? ⟨w.heap.size + 1, 1, none⟩ = some (.slice B m d) := by rw [hW1]; exact cell_made (by simp) rfl
  have HW1 := Lib.hid hW1
  have HN := Lib.hid hn
  have HM := Lib.hid hm
  have HR := Lib.hid hr
  have HQ := Lib.hid hq
  clear hA hB hn hm hr hq hW1 hb1
  by_cases htu : t = u
  · have HE := Lib.hid (show q = r from by
      have a := HR.out; have b := HQ.out
      cases q <;> cases r <;> simp_all)
    subst htu
    go_enter Tryz.func84, Tryz.ntmps84
    go_wp2_with fail
    rw [← HW1.out]
    clear HW1
    (go_at_call 111; refine (sametexts_any A B n c m d L M _ HA.out HB.out HN.out HM.out hn2 hm2 q HQ.out).mono ?_; rintro e w7 ⟨rfl, hb⟩)
    have q0 := cell_on hb s0
    have q1 := cell_on hb c0
    have HBB := Lib.hid (bthen HB1.out hb)
    clear hb s0 s1 c0 c1
    rw [HE.out]
    clear HE HQ
    cases r with
    | true =>
      go_wp2_with fail
      go_ret
      exact ⟨rfl, HBB.out⟩
    | false =>
      go_wp2_with fail
      go_ret
      exact ⟨rfl, HBB.out⟩
  · obtain rfl : r = false := by
      cases r with
      | false => rfl
      | true => exact absurd (HR.out.1 rfl).2 htu
    go_enter Tryz.func84, Tryz.ntmps84
    go_wp2_with fail
    rw [← HW1.out]
    clear HW1
    (go_at_call 111; refine (sametexts_any A B n c m d L M _ HA.out HB.out HN.out HM.out hn2 hm2 q HQ.out).mono ?_; rintro e w7 ⟨rfl, hb⟩)
    have q0 := cell_on hb s0
    have q1 := cell_on hb c0
    have HBB := Lib.hid (bthen HB1.out hb)
    clear hb s0 s1 c0 c1
    cases q with
    | true =>
      go_wp2_with fail
      go_ret
      exact ⟨by simp [htu], HBB.out⟩
    | false =>
      go_wp2_with fail
      go_ret
      exact ⟨rfl, HBB.out⟩
end Go.Proofs.YtmmeekmiildliaaGreatDoor
namespace Go.Proofs.YtmmeekmiildliaaGreatDoor
open Go.RowKit
set_option linter.unusedSimpArgs false
set_option linter.unusedVariables false
/-- Is a list of texts below another, text by text, as far as both reach? -/
def lessL : List ByteArray → List ByteArray → Bool
  | a :: l, b :: m => if a = b then lessL l m else decide (ltT a b)
  | _, _ => false
def lessK (t u : Int) (L M : List ByteArray) : Bool := if t = u then lessL L M else decide (t < u)
theorem lessL_nil_left (M : List ByteArray) : lessL [] M = false := rfl
theorem lessL_nil_right (L : List ByteArray) : lessL L [] = false := by cases L <;> rfl
theorem lessL_drop (L M : List ByteArray) (k : Nat) (h : L.take k = M.take k) (h1 : k ≤ L.length) (h2 : k ≤ M.length) : lessL L M = lessL (L.drop k) (M.drop k) := by
  induction k generalizing L M with
  | zero => rfl
  | succ k ih =>
    match L, M, h1, h2 with
    | a :: L, b :: M, h1, h2 =>
      rw [List.take_succ_cons, List.take_succ_cons] at h
      obtain ⟨e, h3⟩ := List.cons.inj h
      subst e
      rw [lessL, if_pos rfl]
      exact ih L M h3 (by simpa using h1) (by simpa using h2)
theorem lessL_cmpL (L M : List ByteArray) (h : L.length = M.length) : lessL L M = decide (cmpL L M < 0) := by
  induction L generalizing M with
  | nil => match M, h with | [], _ => rfl
  | cons a L ih =>
    match M, h with
    | b :: M, h =>
      rw [lessL, cmpL]
      by_cases e : a = b
      · rw [if_pos e, if_pos (cmpT_zero.2 e)]; exact ih M (by simpa using h)
      · rw [if_neg e, if_neg (fun k => e (cmpT_zero.1 k))]
        unfold cmpT
        by_cases l : ltT a b
        · rw [if_pos l]; simp [l]
        · rw [if_neg l]
          by_cases r : ltT b a
          · rw [if_pos r]; simp [l]
          · rw [if_neg r]; simp [l]
theorem lessK_cmpK (t u : Int) (L M : List ByteArray) (h : L.length = M.length) : lessK t u L M = decide (cmpK t u L M < 0) := by
  unfold lessK cmpK cmpI
  by_cases e : t = u
  · subst e
    rw [if_pos rfl, if_neg (Int.lt_irrefl _), if_neg (Int.lt_irrefl _), if_pos rfl, lessL_cmpL L M h]
  · rw [if_neg e]
    by_cases l : t < u
    · rw [if_pos l, if_neg (by decide)]; simp [l]
    · rw [if_neg l, if_pos (show u < t by omega), if_neg (by decide)]; simp [l]
set_option maxRecDepth 100000 in
set_option maxHeartbeats 8000000 in
theorem less_any (t u k0 j : Int) (A B G H : Option Addr) (n c m d gn gc hn' hc' : Nat) (L M : List ByteArray) (w : World) (hA : Row w A (texts L)) (hB : Row w B (texts M)) (hn : n = L.length) (hm : m = M.length) (hn2 : n ≤ 9223372036854775807) (hm2 : m ≤ 9223372036854775807) :
    Calls Tryz.prog 83 #[.agg #[.int .i64 t, .slice A n c, .int .i64 k0, .slice G gn gc], .agg #[.int .i64 u, .slice B m d, .int .i64 j, .slice H hn' hc']] w fun e w' => e = .returned (.bool (lessK t u L M)) ∧ Below w.heap.size w w' := by
  obtain ⟨W1, hW1⟩ : ∃ W1, W1 = (w.alloc (.cells #[.int .i64 t, .slice A n c, .int .i64 k0, .slice G gn gc] 59)).alloc (.cells #[.int .i64 u, .slice B m d, .int .i64 j, .slice H hn' hc'] 59) := ⟨_, rfl⟩
  have hb1 : Below w.heap.size w W1 := by rw [hW1]; exact bpush (bpush (Below.refl _ _) _) _
  have HB1 := Lib.hid hb1
  have HA := Lib.hid (hA.keep (Nat.le_refl _) hb1)
  have HB := Lib.hid (hB.keep (Nat.le_refl _) hb1)
  have s0 : W1.cell? ⟨w.heap.size, 0, none⟩ = some (.int .i64 t) := by rw [hW1]; exact cell_on (bpush (Below.refl _ _) _) (cell_made rfl rfl)
  have s1 : W1.cell? ⟨w.heap.size, 1, none⟩ = some (.slice A n c) := by rw [hW1]; exact cell_on (bpush (Below.refl _ _) _) (cell_made rfl rfl)
  have c0 : W1.cell? ⟨w.heap.size + 1, 0, none⟩ = some (.int .i64 u) := by rw [hW1]; exact cell_made (by simp) rfl
  have c1 : W1.cell? ⟨w.heap.size + 1, 1, none⟩ = some (.slice B m d) := by rw [hW1]; exact cell_made (by simp) rfl
  have HW1 := Lib.hid hW1
  have HN := Lib.hid hn
  have HM := Lib.hid hm
  obtain ⟨r, hr⟩ : ∃ r : Bool, r = lessK t u L M := ⟨_, rfl⟩
  rw [← hr]
  have HR := Lib.hid hr
  clear hA hB hn hm hW1 hb1 hr
  by_cases htu : t = u
  · have HL := Lib.hid (show r = lessL L M by rw [HR.out]; unfold lessK; rw [if_pos htu])
    subst htu
    go_enter Tryz.func83, Tryz.ntmps83
    go_wp2_with fail
    rw [← HW1.out]
    clear HW1
    go_loopw [5] (fun i wr => ∃ k : Nat, i = .int .i64 (k : Int) ∧ k ≤ n ∧ k ≤ m ∧ Hid (L.take k = M.take k) ∧ Hid (Below W1.heap.size W1 wr)) (fun i _ => n - (intOf i).toNat)
    case atStart => exact ⟨0, rfl, by omega, by omega, Lib.hid rfl, Lib.hid (Below.refl _ _)⟩
    case round =>
      obtain ⟨k, rfl, hk, hkm, HT, HBW⟩ := hrel
      have q0 := cell_on HBW.out s1
      have q1 := cell_on HBW.out c1
      have HD := Lib.hid (lessL_drop L M k HT.out (by have := HN.out; omega) (by have := HM.out; omega))
      by_cases hlt : k < n
      · have hki : (k : Int) < (n : Int) := by omega
        have hk0 : (0 : Int) ≤ (k : Int) := by omega
        have hkL : k < L.length := by have := HN.out; omega
        by_cases hlm : k < m
        · have hkm2 : (k : Int) < (m : Int) := by omega
          have hkM : k < M.length := by have := HM.out; omega
          obtain ⟨b1, o1, hA1, x0⟩ := text_cell (HA.out.keep (Nat.le_refl _) HBW.out) hkL
          obtain ⟨b2, o2, hA2, y0⟩ := text_cell (HB.out.keep (Nat.le_refl _) HBW.out) hkM
          obtain ⟨x, hx⟩ : ∃ x, x = L[k] := ⟨_, rfl⟩
          obtain ⟨y, hy⟩ : ∃ y, y = M[k] := ⟨_, rfl⟩
          rw [← hx] at x0
          rw [← hy] at y0
          subst hA1 hA2
          have HDD := Lib.hid (show r = if x = y then lessL (L.drop (k + 1)) (M.drop (k + 1)) else decide (ltT x y) by
            rw [HL.out, HD.out, List.drop_eq_getElem_cons hkL, List.drop_eq_getElem_cons hkM, lessL, ← hx, ← hy])
          have HST := Lib.hid (show x = y → L.take (k + 1) = M.take (k + 1) from fun e => by
            rw [take_snoc L k hkL, take_snoc M k hkM, HT.out, ← hx, ← hy, e])
          clear hx hy hlt hlm
          by_cases hxy : x = y
          · have HE := Lib.hid (HST.out hxy)
            subst hxy
            go_wp2_with fail
            go_quiet (fail)
            go_wp2_with fail
            go_roundw
            case rel => exact ⟨k + 1, by go_num, by omega, by omega, HE, Lib.hid (below_drewN HBW.out _)⟩
            case measure => simp [intOf]; omega
          · have HF := Lib.hid (show r = Op.bytesLess x.toList y.toList by rw [HDD.out, if_neg hxy, less_bool])
            have hne := str_ne hxy
            clear hxy
            go_wp2_with fail
            go_quiet (fail)
            go_wp2_with fail
            go_quiet (fail)
            go_wp2_with fail
            go_ret
            exact ⟨by rw [HF.out]; first | rfl | simp, bthen HB1.out (below_drewN (below_drewN HBW.out _) _)⟩
        · have hkm2 : ¬ (k : Int) < (m : Int) := by omega
          have HF := Lib.hid (show r = false by
            rw [HL.out, HD.out, show M.drop k = [] from List.drop_eq_nil_of_le (by have := HM.out; omega), lessL_nil_right])
          clear hlt hlm
          go_wp2_with fail
          go_ret
          exact ⟨by rw [HF.out]; first | rfl | simp, bthen HB1.out HBW.out⟩
      · have hki : ¬ (k : Int) < (n : Int) := by omega
        have HF := Lib.hid (show r = false by
          rw [HL.out, HD.out, show L.drop k = [] from List.drop_eq_nil_of_le (by have := HN.out; omega), lessL_nil_left])
        clear hlt
        go_wp2_with fail
        go_ret
        exact ⟨by rw [HF.out]; first | rfl | simp, bthen HB1.out HBW.out⟩
  · have HL := Lib.hid (show r = decide (t < u) by rw [HR.out]; unfold lessK; rw [if_neg htu])
    have hne : (t == u) = false := beq_eq_false_iff_ne.2 htu
    go_enter Tryz.func83, Tryz.ntmps83
    go_wp2_with fail
    rw [← HW1.out]
    clear HW1
    go_ret
    exact ⟨by rw [HL.out]; first | rfl | simp, HB1.out⟩
end Go.Proofs.YtmmeekmiildliaaGreatDoor
namespace Go.Proofs.YtmmeekmiildliaaGreatDoor
open Go.RowKit
set_option linter.unusedSimpArgs false
set_option linter.unusedVariables false
abbrev Ag := Int × Int × Int
def cellsG (L : List Ag) : List Value := L.flatMap fun t => [.int .i64 t.1, .int .i64 t.2.1, .int .i64 t.2.2]
theorem cellsG_cons (t : Ag) (L : List Ag) : cellsG (t :: L) = .int .i64 t.1 :: .int .i64 t.2.1 :: .int .i64 t.2.2 :: cellsG L := by simp [cellsG]
theorem cellsG_app (L M : List Ag) : cellsG (L ++ M) = cellsG L ++ cellsG M := by simp [cellsG]
theorem cellsG_length : ∀ L : List Ag, (cellsG L).length = L.length * 3 := by
  intro L
  induction L with
  | nil => rfl
  | cons p L ih => rw [cellsG_cons, List.length_cons, List.length_cons, List.length_cons, ih, List.length_cons]; omega
theorem cellsG_get : ∀ (L : List Ag) (k : Nat) (h : k < L.length), (cellsG L)[k * 3]? = some (.int .i64 L[k].1) ∧ (cellsG L)[k * 3 + 1]? = some (.int .i64 L[k].2.1) ∧ (cellsG L)[k * 3 + 2]? = some (.int .i64 L[k].2.2) := by
  intro L
  induction L with
  | nil => intro k h; simp at h
  | cons p L ih =>
    intro k h
    rw [cellsG_cons]
    cases k with
    | zero => exact ⟨rfl, rfl, rfl⟩
    | succ k =>
      have := ih k (by simpa using h)
      rw [show (k + 1) * 3 = k * 3 + 3 by omega]
      exact ⟨by simpa using this.1, by simpa using this.2.1, by simpa using this.2.2⟩
theorem Row.at3 {w : World} {A : Option Addr} {L : List Ag} {k : Nat} (h : Row w A (cellsG L)) (hk : k < L.length) :
    ∃ b off, A = some ⟨b, off, none⟩ ∧ w.cell? ⟨b, off + k * 3, none⟩ = some (.int .i64 L[k].1) ∧ w.cell? ⟨b, off + k * 3 + 1, none⟩ = some (.int .i64 L[k].2.1) ∧ w.cell? ⟨b, off + k * 3 + 2, none⟩ = some (.int .i64 L[k].2.2) := by
  rcases h with h | ⟨b, off, rfl, hc⟩
  · have := cellsG_length L; rw [h] at this; simp at this; omega
  · obtain ⟨h1, h2, h3⟩ := cellsG_get L k hk
    exact ⟨b, off, rfl, hc _ _ h1, by have := hc _ _ h2; rwa [← Nat.add_assoc] at this, by have := hc _ _ h3; rwa [← Nat.add_assoc] at this⟩
theorem own_slice3 {B : Nat} {w : World} {v : Value} {n : Nat} {L : List Ag} (h : w.ownsRow B 64 3 v n (cellsG L)) : n = L.length ∧ ∃ A c, v = .slice A n c ∧ Row w A (cellsG L) ∧ n ≤ c ∧ c ≤ maxLen ∧ (A = none → c = 0) := by
  have hn : n = L.length := by have := h.1; rw [cellsG_length] at this; omega
  refine ⟨hn, ?_⟩
  rcases h.2 with ⟨rfl, h0⟩ | ⟨g, cap, cur, rfl, _, hc, h1, h2, h3, h4⟩
  · have hz0 : L = [] := List.length_eq_zero_iff.1 (by omega)
    exact ⟨none, 0, by rw [h0], .inl (by rw [hz0]; rfl), by omega, Nat.zero_le _, fun _ => rfl⟩
  · refine ⟨_, cap, rfl, ?_, h1, h2, fun h => by cases h⟩
    refine .inr ⟨g, 0, rfl, fun i u hu => ?_⟩
    rw [Nat.zero_add]
    have hcc : w.cell? ⟨g, i, none⟩ = cur[i]? := by simp [World.cell?, hc]
    rw [hcc, ← hu, ← h4, List.getElem?_take, Array.getElem?_toList, if_pos]
    rcases Nat.lt_or_ge i (n * 3) with h | h
    · exact h
    · rw [List.getElem?_eq_none (by rw [cellsG_length]; omega)] at hu; cases hu
theorem grown_own3 {w w' : World} {B : Nat} {v : Value} {n : Nat} {xs : List Value} {e : TypeId} (hown : w.ownsRow B e 3 v n xs) (hg : w.grownBy w' v.ownBlock) (h : B ≤ w.heap.size) : Below B w w' :=
  ⟨hg.os, hg.tape, hg.output, hg.size, fun i hi => hg.block i (by omega) (by
    rcases hown.2 with ⟨rfl, _⟩ | ⟨g, cap, cur, rfl, hb, _⟩
    · simp [Value.ownBlock]
    · simp [Value.ownBlock]; omega)⟩
theorem own_below3 {w w' : World} {B : Nat} {e : TypeId} {v : Value} {n : Nat} {xs : List Value} (h : w.ownsRow B e 3 v n xs) (hb : Below w.heap.size w w') : w'.ownsRow B e 3 v n xs :=
  h.kept (row := none) ⟨hb.os, hb.tape, hb.output, hb.size, fun i hi _ => hb.block i hi⟩ (by cases v.ownBlock <;> simp)
set_option maxRecDepth 100000 in
set_option maxHeartbeats 16000000 in
theorem refaggs_any (A B : Option Addr) (n c m d : Nat) (L M : List Ag) (w : World) (hA : Row w A (cellsG L)) (hB : Row w B (cellsG M)) (hn : n = L.length) (hm : m = M.length) (hn2 : n ≤ 9223372036854775807) (hm2 : m ≤ 9223372036854775807) (r : Bool) (hr : r = true ↔ L = M) :
    Calls Tryz.prog 86 #[.slice A n c, .slice B m d] w fun e w' => e = .returned (.bool r) ∧ Below w.heap.size w w' := by
  have HA := Lib.hid hA
  have HB := Lib.hid hB
  have HN := Lib.hid hn
  have HM := Lib.hid hm
  have HR := Lib.hid hr
  clear hA hB hn hm hr
  by_cases hnm : n = m
  case neg =>
    obtain rfl : r = false := by
      cases r; rfl
      exact absurd (by rw [HN.out, HM.out, HR.out.1 rfl]) hnm
    have q1 : ((n : Int) == (m : Int)) = false := by rw [beq_eq_false_iff_ne]; omega
    have q2 : ((n : Int) != (m : Int)) = true := by rw [bne, q1]; rfl
    clear hnm
    go_enter Tryz.func86, Tryz.ntmps86
    go_wp2_with fail
    go_ret
    exact ⟨rfl, Below.refl _ _⟩
  case pos =>
  subst hnm
  go_enter Tryz.func86, Tryz.ntmps86
  go_wp2_with fail
  go_loopw [5] (fun i wr => ∃ k : Nat, i = .int .i64 (k : Int) ∧ k ≤ n ∧ Hid (L.take k = M.take k) ∧ Hid (Below w.heap.size w wr)) (fun i _ => n - (intOf i).toNat)
  case atStart => exact ⟨0, rfl, by omega, Lib.hid rfl, Lib.hid (Below.refl _ _)⟩
  case round =>
    obtain ⟨k, rfl, hk, HE, HBW⟩ := hrel
    by_cases hlt : k < n
    case neg =>
      have hki : ¬ (k : Int) < (n : Int) := by omega
      obtain rfl : r = true := HR.out.2 (by
        have h := HE.out
        rwa [List.take_of_length_le (by have := HN.out; omega), List.take_of_length_le (by have := HM.out; omega)] at h)
      clear hlt
      go_wp2_with fail
      go_ret
      exact ⟨rfl, HBW.out⟩
    case pos =>
    have hki : (k : Int) < (n : Int) := by omega
    have hk0 : (0 : Int) ≤ (k : Int) := by omega
    have hkL : k < L.length := by have := HN.out; omega
    have hkM : k < M.length := by have := HM.out; omega
    obtain ⟨b1, o1, rfl, x0, x1, x2⟩ := (HA.out.keep (Nat.le_refl _) HBW.out).at3 hkL
    obtain ⟨b2, o2, rfl, y0, y1, y2⟩ := (HB.out.keep (Nat.le_refl _) HBW.out).at3 hkM
    obtain ⟨⟨t0, t1, t2⟩, ht⟩ : ∃ t, t = L[k] := ⟨_, rfl⟩
    obtain ⟨⟨s0, s1, s2⟩, hs⟩ : ∃ t, t = M[k] := ⟨_, rfl⟩
    rw [← ht] at x0 x1 x2
    rw [← hs] at y0 y1 y2
    have HT := Lib.hid ht
    have HS := Lib.hid hs
    clear ht hs hlt
    by_cases h0 : t0 = s0
    · subst h0
      by_cases h1 : t1 = s1
      · subst h1
        by_cases h2 : t2 = s2
        · subst h2
          have HE2 := Lib.hid (show L.take (k + 1) = M.take (k + 1) by rw [take_snoc L k hkL, take_snoc M k hkM, HE.out, ← HT.out, ← HS.out])
          go_wp2_with fail
          go_quiet (fail)
          go_wp2_with fail
          go_roundw
          case rel => exact ⟨k + 1, by go_num, by omega, HE2, Lib.hid (below_drewN HBW.out _)⟩
          case measure => simp [intOf]; omega
        · have z1 : (t2 == s2) = false := beq_eq_false_iff_ne.2 h2
          have HNE := Lib.hid (show r = false by
            cases r; rfl
            have e := HR.out.1 rfl
            subst e
            have h := HT.out.trans HS.out.symm
            exact absurd (congrArg (fun t => t.2.2) h) h2)
          clear h2
          go_wp2_with fail
          go_quiet (fail)
          go_wp2_with fail
          go_ret
          exact ⟨by rw [HNE.out]; rfl, below_drewN HBW.out _⟩
      · have z1 : (t1 == s1) = false := beq_eq_false_iff_ne.2 h1
        have HNE := Lib.hid (show r = false by
          cases r; rfl
          have e := HR.out.1 rfl
          subst e
          have h := HT.out.trans HS.out.symm
          exact absurd (congrArg (fun t => t.2.1) h) h1)
        clear h1
        go_wp2_with fail
        go_quiet (fail)
        go_wp2_with fail
        go_ret
        exact ⟨by rw [HNE.out]; rfl, below_drewN HBW.out _⟩
    · have z1 : (t0 == s0) = false := beq_eq_false_iff_ne.2 h0
      have HNE := Lib.hid (show r = false by
        cases r; rfl
        have e := HR.out.1 rfl
        subst e
        have h := HT.out.trans HS.out.symm
        exact absurd (congrArg (fun t => t.1) h) h0)
      clear h0
      go_wp2_with fail
      go_quiet (fail)
      go_wp2_with fail
      go_ret
      exact ⟨by rw [HNE.out]; rfl, below_drewN HBW.out _⟩

end Go.Proofs.YtmmeekmiildliaaGreatDoor
namespace Go.Proofs.YtmmeekmiildliaaGreatDoor
open Go.RowKit
set_option linter.unusedSimpArgs false
set_option linter.unusedVariables false
set_option maxRecDepth 100000 in
set_option maxHeartbeats 8000000 in
theorem refrow_any (t u k0 j : Int) (A B G H : Option Addr) (n c m d gn gc hn' hc' : Nat) (L M : List ByteArray) (X Y : List Ag) (w : World) (hA : Row w A (texts L)) (hB : Row w B (texts M)) (hG : Row w G (cellsG X)) (hH : Row w H (cellsG Y)) (hn : n = L.length) (hm : m = M.length) (hgn : gn = X.length) (hhn : hn' = Y.length) (hn2 : n ≤ 9223372036854775807) (hm2 : m ≤ 9223372036854775807) (hg2 : gn ≤ 9223372036854775807) (hh2 : hn' ≤ 9223372036854775807) (r : Bool) (hr : r = true ↔ (L = M ∧ t = u) ∧ X = Y ∧ k0 = j) :
    Calls Tryz.prog 50 #[.agg #[.int .i64 t, .slice A n c, .int .i64 k0, .slice G gn gc], .agg #[.int .i64 u, .slice B m d, .int .i64 j, .slice H hn' hc']] w fun e w' => e = .returned (.bool r) ∧ Below w.heap.size w w' := by
  obtain ⟨p, hp⟩ : ∃ p : Bool, p = true ↔ L = M ∧ t = u := ⟨decide (L = M ∧ t = u), by simp⟩
  obtain ⟨q, hq⟩ : ∃ q : Bool, q = true ↔ X = Y := ⟨decide (X = Y), by simp⟩
  obtain ⟨W1, hW1⟩ : ∃ W1, W1 = (w.alloc (.cells #[.int .i64 t, .slice A n c, .int .i64 k0, .slice G gn gc] 59)).alloc (.cells #[.int .i64 u, .slice B m d, .int .i64 j, .slice H hn' hc'] 59) := ⟨_, rfl⟩
  have hb1 : Below w.heap.size w W1 := by rw [hW1]; exact bpush (bpush (Below.refl _ _) _) _
  have HB1 := Lib.hid hb1
  have HA := Lib.hid (hA.keep (Nat.le_refl _) hb1)
  have HB := Lib.hid (hB.keep (Nat.le_refl _) hb1)
  have HG := Lib.hid (hG.keep (Nat.le_refl _) hb1)
  have HH := Lib.hid (hH.keep (Nat.le_refl _) hb1)
  have s0 : W1.cell? ⟨w.heap.size, 0, none⟩ = some (.int .i64 t) := by rw [hW1]; exact cell_on (bpush (Below.refl _ _) _) (cell_made rfl rfl)
  have s1 : W1.cell? ⟨w.heap.size, 1, none⟩ = some (.slice A n c) := by rw [hW1]; exact cell_on (bpush (Below.refl _ _) _) (cell_made rfl rfl)
  have s2 : W1.cell? ⟨w.heap.size, 2, none⟩ = some (.int .i64 k0) := by rw [hW1]; exact cell_on (bpush (Below.refl _ _) _) (cell_made rfl rfl)
  have s3 : W1.cell? ⟨w.heap.size, 3, none⟩ = some (.slice G gn gc) := by rw [hW1]; exact cell_on (bpush (Below.refl _ _) _) (cell_made rfl rfl)
  have c0 : W1.cell? ⟨w.heap.size + 1, 0, none⟩ = some (.int .i64 u) := by rw [hW1]; exact cell_made (by simp) rfl
  have c1 : W1.cell? ⟨w.heap.size + 1, 1, none⟩ = some (.slice B m d) := by rw [hW1]; exact cell_made (by simp) rfl
  have c2 : W1.cell? ⟨w.heap.size + 1, 2, none⟩ = some (.int .i64 j) := by rw [hW1]; exact cell_made (by simp) rfl
  have c3 : W1.cell? ⟨w.heap.size + 1, 3, none⟩ = some (.slice H hn' hc') := by rw [hW1]; exact cell_made (by simp) rfl
  have HW1 := Lib.hid hW1
  have HN := Lib.hid hn
  have HM := Lib.hid hm
  have HGN := Lib.hid hgn
  have HHN := Lib.hid hhn
  have HP := Lib.hid hp
  have HQ := Lib.hid hq
  have HR := Lib.hid (show r = (p && (q && decide (k0 = j))) by
    by_cases e : k0 = j <;> cases p <;> cases q <;> cases r <;> simp_all)
  clear hA hB hG hH hn hm hgn hhn hr hW1 hb1 hp hq
  go_enter Tryz.func50, Tryz.ntmps50
  go_wp2_with fail
  rw [← HW1.out]
  clear HW1
  (go_at_call 84; refine (onekey_any t u k0 j A B G H n c m d gn gc hn' hc' L M _ HA.out HB.out HN.out HM.out hn2 hm2 p HP.out).mono ?_; rintro e w7 ⟨rfl, hb⟩)
  have s0 := cell_on hb s0
  have s1 := cell_on hb s1
  have s2 := cell_on hb s2
  have s3 := cell_on hb s3
  have c0 := cell_on hb c0
  have c1 := cell_on hb c1
  have c2 := cell_on hb c2
  have c3 := cell_on hb c3
  have HG := Lib.hid (HG.out.keep (Nat.le_refl _) hb)
  have HH := Lib.hid (HH.out.keep (Nat.le_refl _) hb)
  have HBB := Lib.hid (bthen HB1.out hb)
  clear hb
  go_wp2_with fail
  (go_at_call 86; refine (refaggs_any G H gn gc hn' hc' X Y _ HG.out HH.out HGN.out HHN.out hg2 hh2 q HQ.out).mono ?_; rintro e w8 ⟨rfl, hb⟩)
  have s2 := cell_on hb s2
  have c2 := cell_on hb c2
  have HBB := Lib.hid (bthen HBB.out hb)
  clear hb
  by_cases hkj : k0 = j
  · subst hkj
    cases p with
    | false => cases q <;> (go_wp2_with fail; go_ret; exact ⟨by rw [HR.out]; simp, HBB.out⟩)
    | true =>
      cases q with
      | false => (go_wp2_with fail; go_ret; exact ⟨by rw [HR.out]; simp, HBB.out⟩)
      | true => (go_wp2_with fail; go_ret; exact ⟨by rw [HR.out]; simp, HBB.out⟩)
  · have z1 : (k0 == j) = false := beq_eq_false_iff_ne.2 hkj
    cases p with
    | false => cases q <;> (go_wp2_with fail; go_ret; exact ⟨by rw [HR.out]; simp, HBB.out⟩)
    | true =>
      cases q with
      | false => (go_wp2_with fail; go_ret; exact ⟨by rw [HR.out]; simp, HBB.out⟩)
      | true => (go_wp2_with fail; go_ret; exact ⟨by rw [HR.out]; simp [hkj], HBB.out⟩)
end Go.Proofs.YtmmeekmiildliaaGreatDoor
namespace Go.Proofs.YtmmeekmiildliaaGreatDoor
open Go.RowKit
set_option linter.unusedSimpArgs false
set_option linter.unusedVariables false
/-- What a row holds. -/
structure RV where
  t : Int
  dims : List ByteArray
  count : Int
  aggs : List Ag
theorem RV.one {a b : RV} : a = b ↔ (a.dims = b.dims ∧ a.t = b.t) ∧ a.aggs = b.aggs ∧ a.count = b.count := by
  cases a; cases b; simp only [RV.mk.injEq]; constructor
  · rintro ⟨h1, h2, h3, h4⟩; exact ⟨⟨h2, h1⟩, h4, h3⟩
  · rintro ⟨⟨h2, h1⟩, h4, h3⟩; exact ⟨h1, h2, h3, h4⟩
/-- A row's four cells, and what they lead to. -/
def OneRow (w : World) (b off : Nat) (r : RV) : Prop :=
  ∃ D n c G gn gc, w.cell? ⟨b, off, none⟩ = some (.int .i64 r.t) ∧ w.cell? ⟨b, off + 1, none⟩ = some (.slice D n c) ∧ w.cell? ⟨b, off + 2, none⟩ = some (.int .i64 r.count) ∧ w.cell? ⟨b, off + 3, none⟩ = some (.slice G gn gc) ∧
    Row w D (texts r.dims) ∧ n = r.dims.length ∧ n ≤ 9223372036854775807 ∧ Row w G (cellsG r.aggs) ∧ gn = r.aggs.length ∧ gn ≤ 9223372036854775807
theorem OneRow.keep {w w' : World} {b off : Nat} {r : RV} (h : OneRow w b off r) (hb : Below w.heap.size w w') : OneRow w' b off r := by
  obtain ⟨D, n, c, G, gn, gc, h0, h1, h2, h3, h4, h5, h6, h7, h8, h9⟩ := h
  exact ⟨D, n, c, G, gn, gc, cell_on hb h0, cell_on hb h1, cell_on hb h2, cell_on hb h3, h4.keep (Nat.le_refl _) hb, h5, h6, h7.keep (Nat.le_refl _) hb, h8, h9⟩
/-- A slice of rows. -/
def RowsM (w : World) (A : Option Addr) (K : List RV) : Prop :=
  K = [] ∨ ∃ b off, A = some ⟨b, off, none⟩ ∧ ∀ i (h : i < K.length), OneRow w b (off + i * 4) K[i]
theorem RowsM.keep {w w' : World} {A : Option Addr} {K : List RV} (h : RowsM w A K) (hb : Below w.heap.size w w') : RowsM w' A K := by
  rcases h with h | ⟨b, off, rfl, hc⟩
  · exact .inl h
  · exact .inr ⟨b, off, rfl, fun i hi => (hc i hi).keep hb⟩
theorem RowsM.get {w : World} {A : Option Addr} {K : List RV} {k : Nat} (h : RowsM w A K) (hk : k < K.length) : ∃ b off, A = some ⟨b, off, none⟩ ∧ OneRow w b (off + k * 4) K[k] := by
  rcases h with rfl | ⟨b, off, rfl, hc⟩
  · simp at hk
  · exact ⟨b, off, rfl, hc k hk⟩
set_option maxRecDepth 100000 in
set_option maxHeartbeats 8000000 in
theorem refrows_any (A B : Option Addr) (n c m d : Nat) (K L : List RV) (w : World) (hA : RowsM w A K) (hB : RowsM w B L) (hn : n = K.length) (hm : m = L.length) (hn2 : n ≤ 9223372036854775807) (hm2 : m ≤ 9223372036854775807) (r : Bool) (hr : r = true ↔ K = L) :
    Calls Tryz.prog 20 #[.slice A n c, .slice B m d] w fun e w' => e = .returned (.bool r) ∧ Below w.heap.size w w' := by
  have HA := Lib.hid hA
  have HB := Lib.hid hB
  have HN := Lib.hid hn
  have HM := Lib.hid hm
  have HR := Lib.hid hr
  clear hA hB hn hm hr
  by_cases hnm : n = m
  case neg =>
    obtain rfl : r = false := by
      cases r; rfl
      exact absurd (by rw [HN.out, HM.out, HR.out.1 rfl]) hnm
    have q1 : ((n : Int) == (m : Int)) = false := by rw [beq_eq_false_iff_ne]; omega
    have q2 : ((n : Int) != (m : Int)) = true := by rw [bne, q1]; rfl
    clear hnm
    go_enter Tryz.func20, Tryz.ntmps20
    go_wp2_with fail
    go_ret
    exact ⟨rfl, Below.refl _ _⟩
  case pos =>
  subst hnm
  go_enter Tryz.func20, Tryz.ntmps20
  go_wp2_with fail
  go_loopw [5, 6] (fun i o wr => ∃ k : Nat, i = .int .i64 (k : Int) ∧ k ≤ n ∧ Hid (K.take k = L.take k) ∧ Hid (Below w.heap.size w wr)) (fun i _ _ => n - (intOf i).toNat)
  case atStart => exact ⟨0, rfl, by omega, Lib.hid rfl, Lib.hid (Below.refl _ _)⟩
  case round =>
    obtain ⟨k, rfl, hk, HE, HBW⟩ := hrel
    by_cases hlt : k < n
    case neg =>
      have hki : ¬ (k : Int) < (n : Int) := by omega
      obtain rfl : r = true := HR.out.2 (by
        have h := HE.out
        rwa [List.take_of_length_le (by have := HN.out; omega), List.take_of_length_le (by have := HM.out; omega)] at h)
      clear hlt
      go_wp2_with fail
      go_ret
      exact ⟨rfl, HBW.out⟩
    case pos =>
    have hki : (k : Int) < (n : Int) := by omega
    have hk0 : (0 : Int) ≤ (k : Int) := by omega
    have hkL : k < K.length := by have := HN.out; omega
    have hkM : k < L.length := by have := HM.out; omega
    obtain ⟨b1, o1, rfl, R1⟩ := (HA.out.keep HBW.out).get hkL
    obtain ⟨b2, o2, rfl, R2⟩ := (HB.out.keep HBW.out).get hkM
    obtain ⟨D1, n1, c1, G1, gn1, gc1, x0, x1, x2, x3, x4, x5, x6, x7, x8, x9⟩ := R1
    obtain ⟨D2, n2, c2, G2, gn2, gc2, y0, y1, y2, y3, y4, y5, y6, y7, y8, y9⟩ := R2
    obtain ⟨⟨t1, L1, k1, g1⟩, ht⟩ : ∃ t, t = K[k] := ⟨_, rfl⟩
    obtain ⟨⟨t2, L2, k2, g2⟩, hs⟩ : ∃ t, t = L[k] := ⟨_, rfl⟩
    rw [← ht] at x0 x2 x4 x5 x7 x8
    rw [← hs] at y0 y2 y4 y5 y7 y8
    simp only at x0 x2 x4 x5 x7 x8 y0 y2 y4 y5 y7 y8
    have X4 := Lib.hid x4
    have Y4 := Lib.hid y4
    have X5 := Lib.hid x5
    have Y5 := Lib.hid y5
    have X7 := Lib.hid x7
    have Y7 := Lib.hid y7
    have X8 := Lib.hid x8
    have Y8 := Lib.hid y8
    obtain ⟨p, hp⟩ : ∃ p : Bool, p = true ↔ (L1 = L2 ∧ t1 = t2) ∧ g1 = g2 ∧ k1 = k2 := ⟨decide ((L1 = L2 ∧ t1 = t2) ∧ g1 = g2 ∧ k1 = k2), by simp⟩
    have HP := Lib.hid hp
    have HTS := Lib.hid (show p = true ↔ K[k] = L[k] by rw [← ht, ← hs, RV.one]; exact hp)
    clear ht hs hlt hp x4 y4 x5 y5 x7 y7 x8 y8
    go_wp2_with fail
    refine wp_region_held_drew (S := fun w' => Below wr.heap.size wr w') (by kernel_rfl) (below_drewN (Below.refl _ _) 1) ?_
    intro hHeld
    refine take_want (i := 0) (v := ?v0k1) rfl (by kernel_rfl) (by kernel_rfl) (by kernel_rfl) (fun _ _ _ h => h) (by rfl) ?y0k1 (by assumption) ?r0k1
    case y0k1 => (intro w hSw; go_simp; all_goals with_reducible rfl)
    (try simp only [Act.put, List.setIfInBounds_toArray, List.set_cons_zero, List.set_cons_succ])
    refine take_want (i := 1) (v := ?v1k1) rfl (by kernel_rfl) (by kernel_rfl) (by kernel_rfl) (fun _ _ _ h => h) (by rfl) ?y1k1 (by assumption) ?r1k1
    case y1k1 => (intro w hSw; go_simp; all_goals with_reducible rfl)
    (try simp only [Act.put, List.setIfInBounds_toArray, List.set_cons_zero, List.set_cons_succ])
    refine take_want (i := 2) (v := ?v2k1) rfl (by kernel_rfl) (by kernel_rfl) (by kernel_rfl) (fun _ _ _ h => h) (by rfl) ?y2k1 (by assumption) ?r2k1
    case y2k1 => (intro w hSw; go_simp; all_goals with_reducible rfl)
    (try simp only [Act.put, List.setIfInBounds_toArray, List.set_cons_zero, List.set_cons_succ])
    refine take_want (i := 3) (v := ?v3k1) rfl (by kernel_rfl) (by kernel_rfl) (by kernel_rfl) (fun _ _ _ h => h) (by rfl) ?y3k1 (by assumption) ?r3k1
    case y3k1 => (intro w hSw; have q0 := cell_on hSw x0; have q1 := cell_on hSw x1; have q2 := cell_on hSw x2; have q3 := cell_on hSw x3; go_simp; all_goals with_reducible rfl)
    (try simp only [Act.put, List.setIfInBounds_toArray, List.set_cons_zero, List.set_cons_succ])
    refine take_want (i := 4) (v := ?v4k1) rfl (by kernel_rfl) (by kernel_rfl) (by kernel_rfl) (fun _ _ _ h => h) (by rfl) ?y4k1 (by assumption) ?r4k1
    case y4k1 => (intro w hSw; go_simp; all_goals with_reducible rfl)
    (try simp only [Act.put, List.setIfInBounds_toArray, List.set_cons_zero, List.set_cons_succ])
    refine take_want (i := 5) (v := ?v5k1) rfl (by kernel_rfl) (by kernel_rfl) (by kernel_rfl) (fun _ _ _ h => h) (by rfl) ?y5k1 (by assumption) ?r5k1
    case y5k1 => (intro w hSw; go_simp; all_goals with_reducible rfl)
    (try simp only [Act.put, List.setIfInBounds_toArray, List.set_cons_zero, List.set_cons_succ])
    refine take_want (i := 6) (v := ?v6k1) rfl (by kernel_rfl) (by kernel_rfl) (by kernel_rfl) (fun _ _ _ h => h) (by rfl) ?y6k1 (by assumption) ?r6k1
    case y6k1 => (intro w hSw; go_simp; all_goals with_reducible rfl)
    (try simp only [Act.put, List.setIfInBounds_toArray, List.set_cons_zero, List.set_cons_succ])
    refine take_want (i := 7) (v := ?v7k1) rfl (by kernel_rfl) (by kernel_rfl) (by kernel_rfl) (fun _ _ _ h => h) (by rfl) ?y7k1 (by assumption) ?r7k1
    case y7k1 => (intro w hSw; have q0 := cell_on hSw y0; have q1 := cell_on hSw y1; have q2 := cell_on hSw y2; have q3 := cell_on hSw y3; go_simp; all_goals with_reducible rfl)
    (try simp only [Act.put, List.setIfInBounds_toArray, List.set_cons_zero, List.set_cons_succ])
    refine wpAnyH_ready (rs := [8]) (by kernel_rfl) (by simp) ?_
    refine AllReadyH.cons rfl (fun K hK => ?_) AllReadyH.nil
    go_simp
    (go_at_call 50; refine (refrow_any t1 t2 k1 k2 D1 D2 G1 G2 n1 c1 n2 c2 gn1 gc1 gn2 gc2 L1 L2 g1 g2 _ (X4.out.keep (Nat.le_refl _) hHeld) (Y4.out.keep (Nat.le_refl _) hHeld) (X7.out.keep (Nat.le_refl _) hHeld) (Y7.out.keep (Nat.le_refl _) hHeld) X5.out Y5.out X8.out Y8.out x6 y6 x9 y9 p HP.out).mono ?_; rintro e w7 ⟨rfl, hb⟩)
    refine hK.out _ _ (bthen hHeld hb) (fun hHeld => ?_)
    clear hK K
    (try simp only [Act.put, List.setIfInBounds_toArray, List.set_cons_zero, List.set_cons_succ])
    refine take_want (i := 9) (v := ?v9k1) rfl (by kernel_rfl) (by kernel_rfl) (by kernel_rfl) (fun _ _ _ h => h) (by rfl) ?y9k1 (by assumption) ?r9k1
    case y9k1 => (intro w hSw; go_simp; all_goals with_reducible rfl)
    (try simp only [Act.put, List.setIfInBounds_toArray, List.set_cons_zero, List.set_cons_succ])
    refine wpAnyH_done (by kernel_rfl) ?_ _
    have hb := hHeld
    have HBB := Lib.hid (HBW.out.trans (hb.mono HBW.out.size))
    clear hb
    cases p with
    | true =>
      have HE2 := Lib.hid (show K.take (k + 1) = L.take (k + 1) by rw [take_snoc K k hkL, take_snoc L k hkM, HE.out, HTS.out.1 rfl])
      go_wp2_with fail
      go_roundw
      case rel => exact ⟨k + 1, by go_num, by omega, HE2, HBB⟩
      case measure => simp [intOf]; omega
    | false =>
      have HNE := Lib.hid (show r = false by
        cases r; rfl
        have e := HR.out.1 rfl
        subst e
        exact absurd (HTS.out.2 rfl) (by simp))
      go_wp2_with fail
      go_ret
      exact ⟨by rw [HNE.out]; rfl, HBB.out⟩
end Go.Proofs.YtmmeekmiildliaaGreatDoor
namespace Go.Proofs.YtmmeekmiildliaaGreatDoor
open Go.RowKit
set_option linter.unusedSimpArgs false
set_option linter.unusedVariables false
theorem cmpI_zero {a b : Int} : cmpI a b = 0 ↔ a = b := by
  unfold cmpI
  constructor
  · intro h
    by_cases h1 : a < b
    · rw [if_pos h1] at h; cases h
    · rw [if_neg h1] at h
      by_cases h2 : b < a
      · rw [if_pos h2] at h; cases h
      · omega
  · rintro rfl; rw [if_neg (Int.lt_irrefl _), if_neg (Int.lt_irrefl _)]
theorem cmpL_zero : ∀ (L M : List ByteArray), cmpL L M = 0 ↔ L = M := by
  intro L
  induction L with
  | nil => intro M; cases M with
    | nil => simp [cmpL]
    | cons b M => simp [cmpL]
  | cons a L ih =>
    intro M
    cases M with
    | nil => simp [cmpL]
    | cons b M =>
      rw [cmpL]
      by_cases h : cmpT a b = 0
      · rw [if_pos h, ih M, cmpT_zero.1 h]; simp
      · rw [if_neg h]
        constructor
        · intro k; exact absurd k h
        · intro k; exact absurd (cmpT_zero.2 (List.cons.inj k).1) h
theorem cmpK_zero (t u : Int) (L M : List ByteArray) : cmpK t u L M = 0 ↔ L = M ∧ t = u := by
  unfold cmpK
  by_cases h : cmpI t u = 0
  · rw [if_pos h, cmpL_zero]; simp [cmpI_zero.1 h]
  · rw [if_neg h]
    constructor
    · intro k; exact absurd k h
    · intro k; exact absurd (cmpI_zero.2 k.2) h
end Go.Proofs.YtmmeekmiildliaaGreatDoor
namespace Go.Proofs.YtmmeekmiildliaaGreatDoor
open Go.RowKit
set_option linter.unusedSimpArgs false
set_option linter.unusedVariables false
end Go.Proofs.YtmmeekmiildliaaGreatDoor
namespace Go.Proofs.YtmmeekmiildliaaGreatDoor
open Go.RowKit
set_option linter.unusedSimpArgs false
set_option linter.unusedVariables false
end Go.Proofs.YtmmeekmiildliaaGreatDoor
namespace Go.Proofs.YtmmeekmiildliaaGreatDoor
open Go.RowKit
set_option linter.unusedSimpArgs false
set_option linter.unusedVariables false
end Go.Proofs.YtmmeekmiildliaaGreatDoor
namespace Go.Proofs.YtmmeekmiildliaaGreatDoor
open Go.RowKit
set_option linter.unusedSimpArgs false
set_option linter.unusedVariables false
/-- A right agg. -/
def okA (a : Ag) : Prop := rightB a.1 a.2.1 a.2.2 = true
instance (a : Ag) : Decidable (okA a) := by unfold okA; infer_instance
end Go.Proofs.YtmmeekmiildliaaGreatDoor
namespace Go.Proofs.YtmmeekmiildliaaGreatDoor
open Go.RowKit
set_option linter.unusedSimpArgs false
set_option linter.unusedVariables false
/-- A right row of a schema of so many dimensions and metrics. -/
def rowOk (p q : Nat) (u j : Int) (M : List ByteArray) (Y : List Ag) : Prop := M.length = p ∧ Y.length = q ∧ 0 ≤ u ∧ u ≤ 1099511627776 ∧ 1 ≤ j ∧ j ≤ 1048576 ∧ (∀ s ∈ M, valP s) ∧ (∀ a ∈ Y, okA a)
end Go.Proofs.YtmmeekmiildliaaGreatDoor
namespace Go.Proofs.YtmmeekmiildliaaGreatDoor
open Go.RowKit
set_option linter.unusedSimpArgs false
set_option linter.unusedVariables false
end Go.Proofs.YtmmeekmiildliaaGreatDoor
