/- Lists of events; Fits (8). -/
import Derived.Test.YthogafecplhckaaDoorMA
import Derived.Deep.DeepCutAuto
namespace Go.Proofs.YthogafecplhckaaDoor
open Go.RowKit
set_option linter.unusedSimpArgs false
set_option linter.unusedVariables false
/-- A row of numbers. -/
abbrev intsV (L : List Int) : List Value := L.map (Value.int .i64)
theorem one_intsV (L : List Int) : ∀ u ∈ intsV L, u.oneCell' = true := by
  intro u hu
  obtain ⟨z, _, rfl⟩ := List.mem_map.1 hu
  rfl
/-- An event: where its lists lie, and what it holds. -/
structure EV where
  E : Option Addr
  p : Nat
  q : Nat
  F : Option Addr
  x : Nat
  y : Nat
  t : Int
  D : List ByteArray
  X : List Int
def encEv (z : EV) : List Value := [.int .i64 z.t, .slice z.E z.p z.q, .slice z.F z.x z.y]
def cellsEv (Z : List EV) : List Value := Z.flatMap encEv
theorem cellsEv_length : ∀ Z : List EV, (cellsEv Z).length = Z.length * 3 := by
  intro Z
  induction Z with
  | nil => rfl
  | cons z Z ih => unfold cellsEv at ih ⊢; rw [List.flatMap_cons, List.length_append, ih]; simp [encEv]; omega
theorem cellsEv_get : ∀ (Z : List EV) (k : Nat) (h : k < Z.length) (j : Nat) (u : Value), (encEv Z[k])[j]? = some u → (cellsEv Z)[k * 3 + j]? = some u := by
  intro Z
  induction Z with
  | nil => intro k h; simp at h
  | cons z Z ih =>
    intro k h j u hu
    have hj : j < 3 := by
      rcases Nat.lt_or_ge j 3 with h1 | h1
      · exact h1
      · rw [List.getElem?_eq_none (by simp [encEv]; omega)] at hu; cases hu
    unfold cellsEv at ih ⊢
    rw [List.flatMap_cons]
    cases k with
    | zero => rw [List.getElem?_append_left (by simp [encEv]; omega)]; simpa using hu
    | succ k =>
      rw [List.getElem?_append_right (by simp [encEv]; omega)]
      have := ih k (by simpa using h) j u (by simpa using hu)
      rw [show (k + 1) * 3 + j - (encEv z).length = k * 3 + j by simp [encEv]; omega]
      exact this
structure EvG (w : World) (z : EV) : Prop where
  rd : Row w z.E (texts z.D)
  nd : z.p = z.D.length
  cd : z.p ≤ z.q
  ad : z.E = none → z.q = 0
  rx : Row w z.F (intsV z.X)
  nx : z.x = z.X.length
  sd : ∀ s ∈ z.D, s.size ≤ 9223372036854775807
theorem EvG.keep {w w' : World} {z : EV} {B : Nat} (h : EvG w z) (hB : w.heap.size ≤ B) (hb : Below B w w') : EvG w' z := { h with rd := h.rd.keep hB hb, rx := h.rx.keep hB hb }
structure EvsC (w : World) (A : Option Addr) (Z : List EV) : Prop where
  row : Row w A (cellsEv Z)
  good : ∀ z ∈ Z, EvG w z
theorem EvsC.keep {w w' : World} {A : Option Addr} {Z : List EV} {B : Nat} (h : EvsC w A Z) (hB : w.heap.size ≤ B) (hb : Below B w w') : EvsC w' A Z := ⟨h.row.keep hB hb, fun z hz => (h.good z hz).keep hB hb⟩
theorem EvsC.at {w : World} {A : Option Addr} {Z : List EV} {k : Nat} (h : EvsC w A Z) (hk : k < Z.length) :
    ∃ b off, A = some ⟨b, off, none⟩ ∧ w.cell? ⟨b, off + k * 3, none⟩ = some (.int .i64 Z[k].t) ∧ w.cell? ⟨b, off + k * 3 + 1, none⟩ = some (.slice Z[k].E Z[k].p Z[k].q) ∧ w.cell? ⟨b, off + k * 3 + 2, none⟩ = some (.slice Z[k].F Z[k].x Z[k].y) := by
  rcases h.row with h0 | ⟨b, off, rfl, hc⟩
  · have := cellsEv_length Z; rw [h0] at this; simp at this; omega
  · refine ⟨b, off, rfl, ?_, ?_, ?_⟩
    · exact hc _ _ (cellsEv_get Z k hk 0 _ rfl)
    · have := hc _ _ (cellsEv_get Z k hk 1 _ rfl); rwa [← Nat.add_assoc] at this
    · have := hc _ _ (cellsEv_get Z k hk 2 _ rfl); rwa [← Nat.add_assoc] at this
/-- Such a schema and such events are gone through. -/
structure FitsE (L M : List ByteArray) (Z : List EV) : Prop where
  l : fitsP L
  m : fitsP M
  n : Z.length ≤ 60
  ev : ∀ z ∈ Z, fitsP z.D ∧ z.X.length ≤ 20
set_option maxRecDepth 100000 in
set_option maxHeartbeats 8000000 in
theorem fitsev_any (A E V : Option Addr) (n c m d l lc : Nat) (L M : List ByteArray) (Z : List EV) (w : World) (hA : Row w A (texts L)) (hB : Row w E (texts M)) (hV : EvsC w V Z) (hn : n = L.length) (hm : m = M.length) (hl : l = Z.length) (hn2 : n ≤ 9223372036854775807) (hm2 : m ≤ 9223372036854775807) (hl2 : l ≤ 9223372036854775807)
    (hx2 : ∀ z ∈ Z, z.p ≤ 9223372036854775807 ∧ z.x ≤ 9223372036854775807) (r : Bool) (hr : r = true ↔ FitsE L M Z) :
    Calls Tryd.prog 22 #[.agg #[.slice A n c, .slice E m d], .slice V l lc] w fun e w' => e = .returned (.bool r) ∧ Below w.heap.size w w' := by
  obtain ⟨r1, hr1⟩ := bool_of (fitsP L)
  obtain ⟨r2, hr2⟩ := bool_of (fitsP M)
  obtain ⟨W0, hW0⟩ : ∃ W0, W0 = w.alloc (.cells #[.slice A n c, .slice E m d] 24) := ⟨_, rfl⟩
  have hb0 : Below w.heap.size w W0 := by rw [hW0]; exact bpush (Below.refl _ _) _
  have s0 : W0.cell? ⟨w.heap.size, 0, none⟩ = some (.slice A n c) := by rw [hW0]; exact cell_made rfl rfl
  have s1 : W0.cell? ⟨w.heap.size, 1, none⟩ = some (.slice E m d) := by rw [hW0]; exact cell_made rfl rfl
  have HF1 := Lib.hid (fits_any A n c L W0 (hA.keep (Nat.le_refl _) hb0) hn hn2 r1 hr1)
  have HF2 := Lib.hid (fits_any E m d M W0 (hB.keep (Nat.le_refl _) hb0) hm hm2 r2 hr2)
  have HV := Lib.hid (hV.keep (Nat.le_refl _) hb0)
  have HL := Lib.hid hl
  have HX := Lib.hid hx2
  have HR := Lib.hid hr
  have HR1 := Lib.hid hr1
  have HR2 := Lib.hid hr2
  have HB0 := Lib.hid hb0
  have HW0 := Lib.hid hW0
  have HL2 := Lib.hid hl2
  clear hA hB hV hn hm hl hn2 hm2 hx2 hr hr1 hr2 hb0 hW0 hl2
  go_enter Tryd.func22, Tryd.ntmps22
  go_upto_region 1 with fail
  rw [← HW0.out]
  clear HW0
  cases r1 with
  | false =>
    obtain rfl : r = false := by
      cases r with
      | false => rfl
      | true => have := HR1.out.2 (HR.out.1 rfl).l; cases this
    go_wp2_with (go_at_call 51; first | (with_reducible refine HF1.out.mono ?_; rintro e w1 ⟨rfl, rfl⟩) | (with_reducible refine HF2.out.mono ?_; rintro e w1 ⟨rfl, rfl⟩))
    go_ret
    exact ⟨rfl, HB0.out⟩
  | true =>
  cases r2 with
  | false =>
    obtain rfl : r = false := by
      cases r with
      | false => rfl
      | true => have := HR2.out.2 (HR.out.1 rfl).m; cases this
    go_wp2_with (go_at_call 51; first | (with_reducible refine HF1.out.mono ?_; rintro e w1 ⟨rfl, rfl⟩) | (with_reducible refine HF2.out.mono ?_; rintro e w1 ⟨rfl, rfl⟩))
    go_ret
    exact ⟨rfl, HB0.out⟩
  | true =>
  by_cases h60 : 60 < l
  case pos =>
    have d60 : decide ((60 : Int) < (l : Int)) = true := by simp; omega
    obtain rfl : r = false := by
      cases r with
      | false => rfl
      | true => have := (HR.out.1 rfl).n; have := HL.out; omega
    go_wp2_with (go_at_call 51; first | (with_reducible refine HF1.out.mono ?_; rintro e w1 ⟨rfl, rfl⟩) | (with_reducible refine HF2.out.mono ?_; rintro e w1 ⟨rfl, rfl⟩))
    go_ret
    exact ⟨rfl, HB0.out⟩
  case neg =>
  have d60 : decide ((60 : Int) < (l : Int)) = false := by simp; omega
  have HL60 := Lib.hid (show l ≤ 60 by omega)
  clear h60
  go_wp2_with (go_at_call 51; first | (with_reducible refine HF1.out.mono ?_; rintro e w1 ⟨rfl, rfl⟩) | (with_reducible refine HF2.out.mono ?_; rintro e w1 ⟨rfl, rfl⟩))
  clear HF1 HF2 s0 s1
  go_loopw [7, 8] (fun i _ wr => ∃ k : Nat, k ≤ l ∧ i = .int .i64 k ∧ Hid (∀ (j : Nat) (h : j < Z.length), j < k → fitsP Z[j].D ∧ Z[j].X.length ≤ 20) ∧ wr = W0) (fun i _ _ => l - (intOf i).toNat)
  case atStart => exact ⟨0, Nat.zero_le _, rfl, Lib.hid (fun j _ h => by omega), rfl⟩
  case round =>
    obtain ⟨k, hk, rfl, HK, rfl⟩ := hrel
    by_cases hlt : k < l
    case neg =>
      have hki : ¬ ((k : Int) < (l : Int)) := by omega
      obtain rfl : r = true := HR.out.2 ⟨by first | exact HR1.out.1 rfl | exact HR1.out.1 trivial, by first | exact HR2.out.1 rfl | exact HR2.out.1 trivial, by have := HL.out; have := HL60.out; omega, fun z hz => by
        obtain ⟨j, hj, rfl⟩ := List.getElem_of_mem hz
        exact HK.out j hj (by have := HL.out; omega)⟩
      clear hlt
      go_wp2_with fail
      go_ret
      exact ⟨rfl, HB0.out⟩
    case pos =>
    have hl60 := HL60.out
    have hki : (k : Int) < (l : Int) := by omega
    have hk0 : (0 : Int) ≤ (k : Int) := by omega
    have hkz : k < Z.length := by have := HL.out; omega
    obtain ⟨b, off, rfl, c0, c1, c2⟩ := HV.out.at hkz
    obtain ⟨z, hz⟩ : ∃ z, z = Z[k] := ⟨_, rfl⟩
    have HGZ := Lib.hid (show EvG wr z by rw [hz]; exact HV.out.good _ (List.getElem_mem _))
    have HXZ := Lib.hid (show z.p ≤ 9223372036854775807 ∧ z.x ≤ 9223372036854775807 by rw [hz]; exact HX.out _ (List.getElem_mem _))
    have HZ := Lib.hid hz
    rw [← hz] at c0 c1 c2
    obtain ⟨q1, hq1⟩ := bool_of (fitsP z.D)
    have HQ := Lib.hid hq1
    have HFF := Lib.hid (fits_any z.E z.p z.q z.D wr HGZ.out.rd HGZ.out.nd HXZ.out.1 q1 hq1)
    obtain ⟨zx, hzx⟩ : ∃ zx, zx = z.x := ⟨_, rfl⟩
    have HZX := Lib.hid (show zx = Z[k].X.length by rw [hzx, HGZ.out.nx, hz])
    rw [← hzx] at c2
    have HLT := Lib.hid hlt
    clear hz hq1 hzx hlt
    cases q1 with
    | false =>
      obtain rfl : r = false := by
        cases r with
        | false => rfl
        | true => have := HQ.out.2 (by rw [HZ.out]; exact ((HR.out.1 rfl).ev _ (List.getElem_mem _)).1); cases this
      go_wp2_with (go_at_call 51; refine HFF.out.mono ?_; rintro e w1 ⟨rfl, rfl⟩)
      go_ret
      exact ⟨rfl, HB0.out⟩
    | true =>
    by_cases h20 : 20 < zx
    case pos =>
      have d20 : decide ((20 : Int) < (zx : Int)) = true := by simp; omega
      obtain rfl : r = false := by
        cases r with
        | false => rfl
        | true => have := ((HR.out.1 rfl).ev Z[k] (List.getElem_mem _)).2; have := HZX.out; omega
      go_wp2_with (go_at_call 51; refine HFF.out.mono ?_; rintro e w1 ⟨rfl, rfl⟩)
      go_ret
      exact ⟨rfl, HB0.out⟩
    case neg =>
    have d20 : decide ((20 : Int) < (zx : Int)) = false := by simp; omega
    have HK2 := Lib.hid (show ∀ (j : Nat) (h : j < Z.length), j < k + 1 → fitsP Z[j].D ∧ Z[j].X.length ≤ 20 from fun j hj h => by
      rcases Nat.lt_or_ge j k with h1 | h1
      · exact HK.out j hj h1
      · obtain rfl : j = k := by omega
        exact ⟨by rw [← HZ.out]; exact HQ.out.1 rfl, by have := HZX.out; omega⟩)
    clear h20
    go_wp2_with (go_at_call 51; refine HFF.out.mono ?_; rintro e w1 ⟨rfl, rfl⟩)
    go_roundw
    case rel => exact ⟨k + 1, by have := HLT.out; omega, by go_num, HK2, by first | rfl | trivial⟩
    case measure => have := HLT.out; simp [intOf]; omega
end Go.Proofs.YthogafecplhckaaDoor
