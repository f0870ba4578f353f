/- The law NibbleWidth: its walk. -/
import Derived.Test.YtfioeiejaeoefaaF
import Derived.Deep.Slices
import Derived.Deep.Fields
import Derived.ChangeSame
namespace Go.Proofs.Ytfioeiejaeoefaa
open Go.ChangeShapes Go.WideShapes Go.Deep Go.RowKit
set_option linter.unusedSimpArgs false
def highL (l : List Nat) : Nat := l.foldl max 0
theorem highL_snoc (l : List Nat) (x : Nat) : highL (l ++ [x]) = max (highL l) x := by simp [highL]
theorem highF_lt {w : Nat} : ∀ (l : List Nat) (a : Nat), (l.foldl max a < w ↔ a < w ∧ ∀ x ∈ l, x < w) := by
  intro l
  induction l with
  | nil => intro a; simp
  | cons x l ih =>
    intro a
    rw [List.foldl_cons, ih, Nat.max_lt]
    simp only [List.mem_cons, forall_eq_or_imp, and_assoc]
theorem high_width {l : List Nat} (hs : small l) (v : Nat) : widthN l ≤ v ↔ highL l < 2 ^ v := by
  rw [widthN_le hs]; unfold highL; rw [highF_lt]
  exact ⟨fun h => ⟨Nat.pow_pos (by omega), h⟩, fun h => h.2⟩
theorem high_top {l : List Nat} (hs : small l) {v : Nat} (h : widthN l = v + 1) : highL l / 2 ^ v = 1 := by
  have h1 := (high_width hs (v + 1)).1 (by omega)
  have h2 : ¬ highL l < 2 ^ v := fun h3 => by have := (high_width hs v).2 h3; omega
  rw [Nat.pow_succ] at h1
  have hp : 0 < 2 ^ v := Nat.pow_pos (by omega)
  rw [Nat.div_eq_of_lt_le] <;> omega
set_option maxRecDepth 100000 in
set_option maxHeartbeats 4000000 in
theorem width_rest (A : Option Addr) (n c : Nat) (L : List Nat) (W E : Int) (w : World) (hA : Row w A (u64s L)) (hz : n = L.length) (hs : small L) (hn : n ≤ 300)
    (hp : Calls Try.prog 9 #[.slice A n c, .int .i64 W] w fun e w' => (∃ v, e = .returned (.tuple #[v, .int .i64 E])) ∧ Below w.heap.size w w')
    (hE : (E = 0 ∧ (widthN L : Int) ≤ W ∧ 0 ≤ W ∧ W ≤ 64) ∨ (E ≠ 0 ∧ (W < (widthN L : Int) ∨ W < 0 ∨ 64 < W))) :
    Calls Try.prog 6 #[.slice A n c, .int .i64 W] w fun e w' => e = .returned (.bool true) ∧ Below w.heap.size w w' := by
  obtain ⟨V, hV⟩ : ∃ V, V = widthN L := ⟨_, rfl⟩
  have hV64 : V ≤ 64 := by rw [hV]; exact widthN_le64 L
  have HP := Lib.hid hp
  have HZ := Lib.hid hz
  have HS := Lib.hid hs
  have HV := Lib.hid hV
  have HA := Lib.hid hA
  rw [← hV] at hE
  have HE := Lib.hid hE
  clear hp hz hs hV hA hE
  have hn0 : decide ((300 : Int) < (n : Int)) = false := by simp; omega
  rcases Nat.eq_zero_or_pos V with hv0 | hv0
  · subst hv0
    clear hV64
    rcases Nat.eq_zero_or_pos n with hn1 | hn1
    · obtain rfl := hn1
      go_enter Try.func6, Try.ntmps6
      go_wp2_with fail
      refine (width_any A 0 c L _ HA.out (by omega) HZ.out HS.out).mono ?_
      rintro e w1 ⟨rfl, rfl⟩
      rw [← HV.out]
      go_wp2_with fail
      refine HP.out.mono ?_
      rintro e w1 ⟨⟨v, rfl⟩, hB⟩
      have HB := Lib.hid hB
      clear hB HA HP
      go_wp2_with fail
      refine (alive_any _).mono ?_
      rintro e w2 ⟨rfl, hB2⟩
      have HB2 := Lib.hid (bthen HB.out hB2)
      clear hB2 HB
      rcases HE.out with ⟨rfl, h1, h2, h3⟩ | ⟨h0, h1⟩
      · go_wp2
        go_ret
        exact ⟨by first | (simp; done) | (simp; omega), HB2.out⟩
      · have h0' : (E == 0) = false := by simpa using h0
        have H1 := Lib.hid h1
        clear h1 h0
        by_cases g1 : 0 ≤ W
        · by_cases g2 : W ≤ 64
          · exact absurd H1.out (by omega)
          · go_wp2
            go_ret
            exact ⟨by first | (simp; done) | (simp; omega), HB2.out⟩
        · go_wp2
          go_ret
          exact ⟨by first | (simp; done) | (simp; omega), HB2.out⟩
    · go_enter Try.func6, Try.ntmps6
      go_wp2_with fail
      refine (width_any A n c L _ HA.out (by omega) HZ.out HS.out).mono ?_
      rintro e w1 ⟨rfl, rfl⟩
      rw [← HV.out]
      go_wp2_with fail
      refine HP.out.mono ?_
      rintro e w1 ⟨⟨v, rfl⟩, hB⟩
      have HB := Lib.hid hB
      clear hB HA HP
      go_wp2_with fail
      refine (alive_any _).mono ?_
      rintro e w2 ⟨rfl, hB2⟩
      have HB2 := Lib.hid (bthen HB.out hB2)
      clear hB2 HB
      rcases HE.out with ⟨rfl, h1, h2, h3⟩ | ⟨h0, h1⟩
      · go_wp2
        go_ret
        exact ⟨by first | (simp; done) | (simp; omega), HB2.out⟩
      · have h0' : (E == 0) = false := by simpa using h0
        have H1 := Lib.hid h1
        clear h1 h0
        by_cases g1 : 0 ≤ W
        · by_cases g2 : W ≤ 64
          · exact absurd H1.out (by omega)
          · go_wp2
            go_ret
            exact ⟨by first | (simp; done) | (simp; omega), HB2.out⟩
        · go_wp2
          go_ret
          exact ⟨by first | (simp; done) | (simp; omega), HB2.out⟩
  · have hn1 : 0 < n := by
      rcases Nat.eq_zero_or_pos n with h | h
      · have h1 := HZ.out
        have h2 : L = [] := List.eq_nil_of_length_eq_zero (by omega)
        have h3 := HV.out
        rw [h2] at h3
        have : widthN [] = 0 := by decide +kernel
        omega
      · exact h
    obtain ⟨m, rfl⟩ : ∃ m, V = m + 1 := ⟨V - 1, by omega⟩
    go_enter Try.func6, Try.ntmps6
    go_wp2_with fail
    refine (width_any A n c L _ HA.out (by omega) HZ.out HS.out).mono ?_
    rintro e w1 ⟨rfl, rfl⟩
    rw [← HV.out]
    go_wp2_with fail
    refine HP.out.mono ?_
    rintro e w1 ⟨⟨v, rfl⟩, hB⟩
    have HB := Lib.hid hB
    have hA1 := HA.out.keep (Nat.le_refl _) hB
    clear hB HA HP
    go_wp2_with fail
    go_loop [9, 10] (fun u i => ∃ k U : Nat, k ≤ n ∧ i = .int .i64 k ∧ u = .int .u64 U ∧ Hid (U = highL (L.take k))) (fun _ i => n - (intOf i).toNat)
    case atStart => exact ⟨0, 0, Nat.zero_le _, rfl, rfl, Lib.hid rfl⟩
    case round =>
      obtain ⟨k, U, hk, rfl, rfl, HU⟩ := hrel
      by_cases hlt : k < n
      · have hkz : k < L.length := by have := HZ.out; omega
        obtain ⟨b, off, hA', hcell⟩ := u64s_cell hA1 hkz
        obtain ⟨x, hx⟩ : ∃ x, x = L[k] := ⟨_, rfl⟩
        rw [← hx] at hcell
        have HU2 := Lib.hid (show max U x = highL (L.take (k + 1)) by rw [take_snoc L k hkz, highL_snoc, ← HU.out, hx])
        clear hx HU
        subst hA'
        go_wp2
        go_round
        case rel => exact ⟨k + 1, max U x, by omega, by go_num, by first | rfl | go_num, HU2⟩
        case measure => simp [intOf]; omega
      · have hk : k = n := by omega
        have htop : U / 2 ^ m = 1 := by
          rw [HU.out, List.take_of_length_le (by have := HZ.out; omega)]
          exact high_top HS.out HV.out.symm
        have hti : ((U : Int) / 2 ^ m != 1) = false := by
          have : ((U : Int) / 2 ^ m) = ((U / 2 ^ m : Nat) : Int) := by rw [Int.natCast_ediv, Int.natCast_pow]; rfl
          rw [this, htop]; rfl
        clear htop HU hk
        go_wp2_with fail
        refine (alive_any _).mono ?_
        rintro e w2 ⟨rfl, hB2⟩
        have HB2 := Lib.hid (bthen HB.out hB2)
        clear hB2 HB
        rcases HE.out with ⟨rfl, h1, h2, h3⟩ | ⟨h0, h1⟩
        · go_wp2
          go_ret
          exact ⟨by first | (simp; done) | (simp; omega), HB2.out⟩
        · have h0' : (E == 0) = false := by simpa using h0
          have H1 := Lib.hid h1
          clear h1 h0
          by_cases g0 : W < (m : Int) + 1
          · go_wp2
            go_ret
            exact ⟨by first | (simp; done) | (simp; omega), HB2.out⟩
          · by_cases g1 : 0 ≤ W
            · by_cases g2 : W ≤ 64
              · exact absurd H1.out (by omega)
              · go_wp2
                go_ret
                exact ⟨by first | (simp; done) | (simp; omega), HB2.out⟩
            · exact absurd H1.out (by omega)
set_option maxRecDepth 100000 in
set_option maxHeartbeats 1000000 in
theorem widthlaw_any (A : Option Addr) (n c : Nat) (L : List Nat) (W : Int) (w : World) (hA : Row w A (u64s L)) (hz : n = L.length) (hs : small L) :
    Calls Try.prog 6 #[.slice A n c, .int .i64 W] w fun e w' => e = .returned (.bool true) ∧ Below w.heap.size w w' := by
  by_cases hlong : 300 < n
  · clear hz
    have hl : (300 : Int) < (n : Int) := by omega
    go_enter Try.func6, Try.ntmps6
    go_wp2_with fail
    refine (alive_any _).mono ?_
    rintro e w1 ⟨rfl, hb⟩
    go_wp2
    go_ret
    exact ⟨rfl, hb⟩
  · have hn : n ≤ 300 := by omega
    by_cases hok : okSize n W
    · obtain ⟨_, h0, h64⟩ := hok
      obtain ⟨V, rfl⟩ := Int.eq_ofNat_of_zero_le h0
      by_cases hw : widthN L ≤ V
      · exact width_rest A n c L V 0 w hA hz hs hn ((pack_good A n c L V w hA (by omega) hz hs (by omega) hw).mono fun e w' ⟨g, he, _, _, hB⟩ => ⟨⟨_, he⟩, hB⟩) (.inl ⟨rfl, by omega, by omega, by omega⟩)
      · exact width_rest A n c L V 71 w hA hz hs hn ((pack_wide A n c L V w hA (by omega) hz hs (by omega) (by omega)).mono fun e w' ⟨he, hw'⟩ => ⟨⟨_, he⟩, hw' ▸ Below.refl _ _⟩) (.inr ⟨by omega, .inl (by omega)⟩)
    · refine width_rest A n c L W 1 w hA hz hs hn ((pack_bad A n c W w hok).mono fun e w' ⟨he, hw'⟩ => ⟨⟨_, he⟩, hw' ▸ Below.refl _ _⟩) (.inr ⟨by omega, .inr ?_⟩)
      unfold okSize at hok; omega
variable {H : Type} {enc : TypeId × Value → H} {w : World} {base : Nat} {held : Bool}
theorem u64s_opened {A : Option Addr} {len cap fuel : Nat} {x : DataW H × List MemPlace} (hu : DataW.trod enc Try.prog w base (fun _ => true) held fuel 22 (Value.slice A len cap).cells.toList = some x) :
    ∃ L : List Nat, Row w A (u64s L) ∧ len ≤ cap ∧ cap ≤ maxLen ∧ len = L.length ∧ small L ∧ (A = none → cap = 0) := by
  rcases open_ints Try.underlying22 Try.underlying35 (by kernel_rfl) hu with ⟨hcs, _⟩ | ⟨x, l, c, zs, hcs, _, hl, hm, hz, _, hcell, hwz⟩
  · simp [Value.cells] at hcs
    obtain ⟨rfl, rfl, rfl⟩ := hcs
    exact ⟨[], .inl rfl, Nat.le_refl _, by simp [maxLen], rfl, by intro x hx; simp at hx, fun _ => rfl⟩
  · simp [Value.cells] at hcs
    obtain ⟨rfl, rfl, rfl⟩ := hcs
    obtain ⟨ys, h1, h2, h3, h4, h5⟩ := row_opened hl hm hz hcell hwz
    have hb : ∀ z ∈ ys, 0 ≤ z ∧ z ≤ 18446744073709551615 := fun z hz => bounds_u64 (h5 z hz)
    have he : (ys.map (Value.int .u64)) = u64s (ys.map Int.toNat) := by
      unfold u64s
      rw [List.map_map]
      apply List.map_congr_left
      intro z hz
      have := hb z hz
      simp only [Function.comp]
      rw [Int.toNat_of_nonneg this.1]
    refine ⟨ys.map Int.toNat, he ▸ h1, h2, h3, by rw [List.length_map]; exact h4.symm, fun z hz => ?_, fun h => by cases h⟩
    obtain ⟨y, hy, rfl⟩ := List.mem_map.1 hz
    have := hb y hy
    omega
end Go.Proofs.Ytfioeiejaeoefaa
