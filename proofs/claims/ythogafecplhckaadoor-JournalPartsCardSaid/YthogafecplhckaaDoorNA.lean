/- Entries of a journal; right (39). -/
import Derived.Test.YthogafecplhckaaDoorIP
import Derived.Test.YthogafecplhckaaDoorGY
namespace Go.Proofs.YthogafecplhckaaDoor
open Go.RowKit
set_option linter.unusedSimpArgs false
set_option linter.unusedVariables false
/-- An entry: a tick, or an event. -/
structure EZ where
  tick : Bool
  now : Int
  ev : EV
structure EvOk (L M D : List ByteArray) (X : List Int) (t : Int) : Prop where
  dl : D.length = L.length
  xl : X.length = M.length
  dv : ∀ s ∈ D, valP s
  xv : ∀ x ∈ X, ¬ greatZ x
  t0 : 0 ≤ t
  t1 : t ≤ 1099511627776
theorem CheckIs.ok {L M D : List ByteArray} {X : List Int} {t v : Int} (h : CheckIs L M D X t v) (hv : v = 0) : EvOk L M D X t := by
  subst hv
  rcases h with ⟨_, h⟩ | ⟨_, _, h⟩ | ⟨h1, h2, ⟨_, h⟩ | ⟨_, _, h⟩ | ⟨h3, h4, ⟨_, h⟩ | ⟨_, h⟩ | ⟨h5, h6, _⟩⟩⟩
  · exact absurd h (by decide)
  · exact absurd h (by decide)
  · exact absurd h (by decide)
  · exact absurd h (by decide)
  · exact absurd h (by decide)
  · exact absurd h (by decide)
  · exact ⟨h1, h2, h3, h4, h5, h6⟩
theorem EvOk.check {L M D : List ByteArray} {X : List Int} {t v : Int} (h : EvOk L M D X t) (hv : CheckIs L M D X t v) : v = 0 := by
  have h5 := h.t0
  have h6 := h.t1
  rcases hv with ⟨h1, _⟩ | ⟨_, h1, _⟩ | ⟨_, _, ⟨⟨s, hs, hn⟩, _⟩ | ⟨_, ⟨x, hx, hn⟩, _⟩ | ⟨_, _, ⟨h7, _⟩ | ⟨h7, _⟩ | ⟨_, _, h7⟩⟩⟩
  · exact absurd h.dl h1
  · exact absurd h.xl h1
  · exact absurd (h.dv s hs) hn
  · exact absurd hn (h.xv x hx)
  · omega
  · omega
  · exact h7
/-- A right entry. -/
def rightJ (L M : List ByteArray) (z : EZ) : Prop :=
  if z.tick = true then z.ev.t = 0 ∧ z.ev.D = [] ∧ z.ev.X = [] ∧ 0 ≤ z.now ∧ z.now ≤ 1099511627776 else z.now = 0 ∧ EvOk L M z.ev.D z.ev.X z.ev.t
/-- An entry as an argument. -/
abbrev EZ.arg (z : EZ) : Value := .agg #[.bool z.tick, .int .i64 z.now, .int .i64 z.ev.t, .slice z.ev.E z.ev.p z.ev.q, .slice z.ev.F z.ev.x z.ev.y]
set_option maxRecDepth 100000 in
set_option maxHeartbeats 8000000 in
theorem jright_any (A B : Option Addr) (n c m d : Nat) (L M : List ByteArray) (z : EZ) (w : World) (hz : EvG w z.ev) (hn : n = L.length) (hm : m = M.length) (hp2 : z.ev.p ≤ 9223372036854775807) (hx2 : z.ev.x ≤ 9223372036854775807) (r : Bool) (hr : r = true ↔ rightJ L M z) :
    Calls Tryd.prog 39 #[.agg #[.slice A n c, .slice B m d], z.arg] w fun e w' => e = .returned (.bool r) ∧ Below w.heap.size w w' := by
  obtain ⟨tick, now, ⟨E, p, q, F, x, y, t, D, X⟩⟩ := z
  obtain ⟨W0, hW0⟩ : ∃ W0, W0 = (w.alloc (.cells #[.slice A n c, .slice B m d] 24)).alloc (.cells #[.bool tick, .int .i64 now, .int .i64 t, .slice E p q, .slice F x y] 46) := ⟨_, rfl⟩
  have hb0 : Below w.heap.size w W0 := by rw [hW0]; exact bpush (bpush (Below.refl _ _) _) _
  have s0 : W0.cell? ⟨w.heap.size, 0, none⟩ = some (.slice A n c) := by rw [hW0]; exact cell_on (bpush (Below.refl _ _) _) (cell_made rfl rfl)
  have s1 : W0.cell? ⟨w.heap.size, 1, none⟩ = some (.slice B m d) := by rw [hW0]; exact cell_on (bpush (Below.refl _ _) _) (cell_made rfl rfl)
  have e0 : W0.cell? ⟨w.heap.size + 1, 0, none⟩ = some (.bool tick) := by rw [hW0]; exact cell_made (by simp) rfl
  have e1 : W0.cell? ⟨w.heap.size + 1, 1, none⟩ = some (.int .i64 now) := by rw [hW0]; exact cell_made (by simp) rfl
  have e2 : W0.cell? ⟨w.heap.size + 1, 2, none⟩ = some (.int .i64 t) := by rw [hW0]; exact cell_made (by simp) rfl
  have e3 : W0.cell? ⟨w.heap.size + 1, 3, none⟩ = some (.slice E p q) := by rw [hW0]; exact cell_made (by simp) rfl
  have e4 : W0.cell? ⟨w.heap.size + 1, 4, none⟩ = some (.slice F x y) := by rw [hW0]; exact cell_made (by simp) rfl
  obtain ⟨v, hv⟩ := check_ex L M D X t
  have hzk := hz.keep (Nat.le_refl _) hb0
  have HC := Lib.hid (check_any A B E F n c m d p q x y t L M D X W0 hzk.rd hzk.rx hn hm hz.nd hz.nx hz.sd hp2 hx2 v hv)
  have HP := Lib.hid (show p = D.length from hz.nd)
  have HX := Lib.hid (show x = X.length from hz.nx)
  have HR := Lib.hid (show r = true ↔ rightJ L M ⟨tick, now, ⟨E, p, q, F, x, y, t, D, X⟩⟩ from hr)
  have HV := Lib.hid hv
  have HB0 := Lib.hid hb0
  have HW0 := Lib.hid hW0
  clear hz hzk hn hm hp2 hx2 hr hv hW0 hb0
  go_enter Tryd.func39, Tryd.ntmps39
  go_upto_region 1 with fail
  rw [← HW0.out]
  clear HW0
  cases tick with
  | true =>
    have hrj : r = true ↔ (t = 0 ∧ D = [] ∧ X = [] ∧ 0 ≤ now ∧ now ≤ 1099511627776) := by
      rw [HR.out]; unfold rightJ; simp
    have HJ := Lib.hid hrj
    clear hrj HR HC HV s0 s1
    by_cases h1 : t = 0
    case neg =>
      obtain rfl : r = false := by
        cases r with
        | false => rfl
        | true => exact absurd (HJ.out.1 rfl).1 h1
      have z1 : (t == 0) = false := by rw [beq_eq_false_iff_ne]; exact h1
      clear h1
      go_wp2_with fail
      go_ret
      exact ⟨rfl, HB0.out⟩
    case pos =>
    have z1 : (t == 0) = true := by rw [beq_iff_eq]; exact h1
    by_cases h2 : p = 0
    case neg =>
      obtain rfl : r = false := by
        cases r with
        | false => rfl
        | true => have h := (HJ.out.1 rfl).2.1; have := HP.out; rw [h] at this; exact absurd this h2
      have z2 : ((p : Int) == 0) = false := by rw [beq_eq_false_iff_ne]; omega
      have HT := Lib.hid h1
      clear h1 h2
      go_wp2_with fail
      go_ret
      exact ⟨rfl, HB0.out⟩
    case pos =>
    have z2 : ((p : Int) == 0) = true := by rw [beq_iff_eq]; omega
    by_cases h3 : x = 0
    case neg =>
      obtain rfl : r = false := by
        cases r with
        | false => rfl
        | true => have h := (HJ.out.1 rfl).2.2.1; have := HX.out; rw [h] at this; exact absurd this h3
      have z3 : ((x : Int) == 0) = false := by rw [beq_eq_false_iff_ne]; omega
      have HT := Lib.hid h1
      clear h1 h2 h3
      go_wp2_with fail
      go_ret
      exact ⟨rfl, HB0.out⟩
    case pos =>
    have z3 : ((x : Int) == 0) = true := by rw [beq_iff_eq]; omega
    have hD : D = [] := List.eq_nil_of_length_eq_zero (by have := HP.out; omega)
    have hX : X = [] := List.eq_nil_of_length_eq_zero (by have := HX.out; omega)
    have HT := Lib.hid (show t = 0 ∧ D = [] ∧ X = [] from ⟨h1, hD, hX⟩)
    clear h1 h2 h3 hD hX
    by_cases h4 : 0 ≤ now
    case neg =>
      obtain rfl : r = false := by
        cases r with
        | false => rfl
        | true => exact absurd (HJ.out.1 rfl).2.2.2.1 h4
      have z4 : decide (0 ≤ now) = false := by simp; omega
      clear h4
      go_wp2_with fail
      go_ret
      exact ⟨rfl, HB0.out⟩
    case pos =>
    have z4 : decide (0 ≤ now) = true := by simp; omega
    by_cases h5 : now ≤ 1099511627776
    case neg =>
      obtain rfl : r = false := by
        cases r with
        | false => rfl
        | true => exact absurd (HJ.out.1 rfl).2.2.2.2 h5
      have z5 : decide (now ≤ 1099511627776) = false := by simp; omega
      clear h4 h5
      go_wp2_with fail
      go_ret
      exact ⟨rfl, HB0.out⟩
    case pos =>
      obtain rfl : r = true := HJ.out.2 ⟨HT.out.1, HT.out.2.1, HT.out.2.2, h4, h5⟩
      have z5 : decide (now ≤ 1099511627776) = true := by simp; omega
      clear h4 h5
      go_wp2_with fail
      go_ret
      exact ⟨rfl, HB0.out⟩
  | false =>
    have hrj : r = true ↔ (now = 0 ∧ EvOk L M D X t) := by
      rw [HR.out]; unfold rightJ; simp
    have HJ := Lib.hid hrj
    clear hrj HR
    by_cases h1 : now = 0
    case neg =>
      obtain rfl : r = false := by
        cases r with
        | false => rfl
        | true => exact absurd (HJ.out.1 rfl).1 h1
      have z1 : (now == 0) = false := by rw [beq_eq_false_iff_ne]; exact h1
      clear h1
      go_wp2_with fail
      go_ret
      exact ⟨rfl, HB0.out⟩
    case pos =>
    have z1 : (now == 0) = true := by rw [beq_iff_eq]; exact h1
    have HN := Lib.hid h1
    clear h1
    by_cases h2 : v = 0
    case neg =>
      obtain rfl : r = false := by
        cases r with
        | false => rfl
        | true => exact absurd ((HJ.out.1 rfl).2.check HV.out) h2
      have z2 : (v == 0) = false := by rw [beq_eq_false_iff_ne]; exact h2
      clear h2
      go_wp2_with (go_at_call 68; refine HC.out.mono ?_; rintro e w1 ⟨rfl, hb1⟩)
      go_ret
      exact ⟨rfl, bthen HB0.out hb1⟩
    case pos =>
      obtain rfl : r = true := HJ.out.2 ⟨HN.out, HV.out.ok h2⟩
      have z2 : (v == 0) = true := by rw [beq_iff_eq]; exact h2
      clear h2
      go_wp2_with (go_at_call 68; refine HC.out.mono ?_; rintro e w1 ⟨rfl, hb1⟩)
      go_ret
      exact ⟨rfl, bthen HB0.out hb1⟩
end Go.Proofs.YthogafecplhckaaDoor
