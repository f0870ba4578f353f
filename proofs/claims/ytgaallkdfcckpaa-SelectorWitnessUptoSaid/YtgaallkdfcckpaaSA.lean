/- Tiers, projections, files, plans in memory; Aligned (27, 31), Coarser (26, 65). -/
import Derived.Test.YtgaallkdfcckpaaGD
namespace Go.Proofs.Ytgaallkdfcckpaa
open Go.RowKit Go.Maps Go.Lib Go.Shelf
set_option linter.unusedSimpArgs false
set_option linter.unusedVariables false
theorem al_any (t g : Int) (w : World) : Calls Try.prog 27 #[.int .i64 t, .int .i64 g] w fun e w' => e = .returned (.bool (alB t g)) ∧ w = w' := by
  by_cases hg : okGran g
  · have HG := Lib.hid hg
    have hg1 := hg.1
    by_cases h0 : t.tmod g = 0
    · have hb : (t.tmod g == 0) = true := by simpa using h0
      have HA := Lib.hid (show alB t g = true by simp [alB, hg, h0])
      clear hg h0
      go_enter Try.func27, Try.ntmps27
      go_wp2_with (go_at_call 56; refine (right_yes _ _ HG.out).mono ?_; rintro e w1 ⟨rfl, rfl⟩)
      go_ret
      exact ⟨by rw [HA.out]; rfl, rfl⟩
    · have hb : (t.tmod g == 0) = false := by simpa using h0
      have HA := Lib.hid (show alB t g = false by simp [alB, h0])
      clear hg h0
      go_enter Try.func27, Try.ntmps27
      go_wp2_with (go_at_call 56; refine (right_yes _ _ HG.out).mono ?_; rintro e w1 ⟨rfl, rfl⟩)
      go_ret
      exact ⟨by rw [HA.out]; rfl, rfl⟩
  · have HG := Lib.hid hg
    have HA := Lib.hid (show alB t g = false by simp [alB, hg])
    clear hg
    go_enter Try.func27, Try.ntmps27
    go_wp2_with (go_at_call 56; refine (right_no _ _ HG.out).mono ?_; rintro e w1 ⟨rfl, rfl⟩)
    go_ret
    exact ⟨by rw [HA.out]; rfl, rfl⟩
theorem ral_any (t g : Int) (w : World) : Calls Try.prog 31 #[.int .i64 t, .int .i64 g] w fun e w' => e = .returned (.bool (alB t g)) ∧ w = w' := by
  by_cases hg : okGran g
  · have HG := Lib.hid hg
    have hg1 := hg.1
    by_cases h0 : t.tmod g = 0
    · have hb : (t.tmod g == 0) = true := by simpa using h0
      have HA := Lib.hid (show alB t g = true by simp [alB, hg, h0])
      clear hg h0
      go_enter Try.func31, Try.ntmps31
      go_wp2_with (go_at_call 58; refine (rright_yes _ _ HG.out).mono ?_; rintro e w1 ⟨rfl, rfl⟩)
      go_ret
      exact ⟨by rw [HA.out]; rfl, rfl⟩
    · have hb : (t.tmod g == 0) = false := by simpa using h0
      have HA := Lib.hid (show alB t g = false by simp [alB, h0])
      clear hg h0
      go_enter Try.func31, Try.ntmps31
      go_wp2_with (go_at_call 58; refine (rright_yes _ _ HG.out).mono ?_; rintro e w1 ⟨rfl, rfl⟩)
      go_ret
      exact ⟨by rw [HA.out]; rfl, rfl⟩
  · have HG := Lib.hid hg
    have HA := Lib.hid (show alB t g = false by simp [alB, hg])
    clear hg
    go_enter Try.func31, Try.ntmps31
    go_wp2_with (go_at_call 58; refine (rright_no _ _ HG.out).mono ?_; rintro e w1 ⟨rfl, rfl⟩)
    go_ret
    exact ⟨by rw [HA.out]; rfl, rfl⟩
theorem co_any (a b : Int) (w : World) : Calls Try.prog 26 #[.int .i64 a, .int .i64 b] w fun e w' => e = .returned (.bool (coB a b)) ∧ w = w' := by
  by_cases ha : okGran a
  · have HGA := Lib.hid ha
    have ha1 := ha.1
    by_cases hg : okGran b
    · have HGB := Lib.hid hg
      have hb1 := hg.1
      by_cases h0 : a % b = 0
      · have hb : (a % b == 0) = true := by simpa using h0
        have HA := Lib.hid (show coB a b = true by simp [coB, ha, hg, h0])
        clear ha hg h0
        go_enter Try.func26, Try.ntmps26
        go_wp2_with fail
        refine (right_yes _ _ HGA.out).mono ?_
        rintro e w1 ⟨rfl, rfl⟩
        go_wp2_with fail
        refine (right_yes _ _ HGB.out).mono ?_
        rintro e w1 ⟨rfl, rfl⟩
        go_wp2
        go_ret
        exact ⟨by rw [HA.out]; rfl, rfl⟩
      · have hb : (a % b == 0) = false := by simpa using h0
        have HA := Lib.hid (show coB a b = false by simp [coB, h0])
        clear ha hg h0
        go_enter Try.func26, Try.ntmps26
        go_wp2_with fail
        refine (right_yes _ _ HGA.out).mono ?_
        rintro e w1 ⟨rfl, rfl⟩
        go_wp2_with fail
        refine (right_yes _ _ HGB.out).mono ?_
        rintro e w1 ⟨rfl, rfl⟩
        go_wp2
        go_ret
        exact ⟨by rw [HA.out]; rfl, rfl⟩
    · have HGB := Lib.hid hg
      have HA := Lib.hid (show coB a b = false by simp [coB, hg])
      clear ha hg
      go_enter Try.func26, Try.ntmps26
      go_wp2_with fail
      refine (right_yes _ _ HGA.out).mono ?_
      rintro e w1 ⟨rfl, rfl⟩
      go_wp2_with fail
      refine (right_no _ _ HGB.out).mono ?_
      rintro e w1 ⟨rfl, rfl⟩
      go_wp2
      go_ret
      exact ⟨by rw [HA.out]; rfl, rfl⟩
  · have HGA := Lib.hid ha
    have HA := Lib.hid (show coB a b = false by simp [coB, ha])
    clear ha
    go_enter Try.func26, Try.ntmps26
    go_wp2_with fail
    refine (right_no _ _ HGA.out).mono ?_
    rintro e w1 ⟨rfl, rfl⟩
    go_wp2
    go_ret
    exact ⟨by rw [HA.out]; rfl, rfl⟩
theorem rco_any (a b : Int) (w : World) : Calls Try.prog 65 #[.int .i64 a, .int .i64 b] w fun e w' => e = .returned (.bool (coB a b)) ∧ w = w' := by
  by_cases ha : okGran a
  · have HGA := Lib.hid ha
    have ha1 := ha.1
    by_cases hg : okGran b
    · have HGB := Lib.hid hg
      have hb1 := hg.1
      by_cases h0 : a % b = 0
      · have hb : (a % b == 0) = true := by simpa using h0
        have HA := Lib.hid (show coB a b = true by simp [coB, ha, hg, h0])
        clear ha hg h0
        go_enter Try.func65, Try.ntmps65
        go_wp2_with fail
        refine (rright_yes _ _ HGA.out).mono ?_
        rintro e w1 ⟨rfl, rfl⟩
        go_wp2_with fail
        refine (rright_yes _ _ HGB.out).mono ?_
        rintro e w1 ⟨rfl, rfl⟩
        go_wp2
        go_ret
        exact ⟨by rw [HA.out]; rfl, rfl⟩
      · have hb : (a % b == 0) = false := by simpa using h0
        have HA := Lib.hid (show coB a b = false by simp [coB, h0])
        clear ha hg h0
        go_enter Try.func65, Try.ntmps65
        go_wp2_with fail
        refine (rright_yes _ _ HGA.out).mono ?_
        rintro e w1 ⟨rfl, rfl⟩
        go_wp2_with fail
        refine (rright_yes _ _ HGB.out).mono ?_
        rintro e w1 ⟨rfl, rfl⟩
        go_wp2
        go_ret
        exact ⟨by rw [HA.out]; rfl, rfl⟩
    · have HGB := Lib.hid hg
      have HA := Lib.hid (show coB a b = false by simp [coB, hg])
      clear ha hg
      go_enter Try.func65, Try.ntmps65
      go_wp2_with fail
      refine (rright_yes _ _ HGA.out).mono ?_
      rintro e w1 ⟨rfl, rfl⟩
      go_wp2_with fail
      refine (rright_no _ _ HGB.out).mono ?_
      rintro e w1 ⟨rfl, rfl⟩
      go_wp2
      go_ret
      exact ⟨by rw [HA.out]; rfl, rfl⟩
  · have HGA := Lib.hid ha
    have HA := Lib.hid (show coB a b = false by simp [coB, ha])
    clear ha
    go_enter Try.func65, Try.ntmps65
    go_wp2_with fail
    refine (rright_no _ _ HGA.out).mono ?_
    rintro e w1 ⟨rfl, rfl⟩
    go_wp2_with fail
    refine (brright_any _ _).mono ?_
    rintro e w1 ⟨rfl, rfl⟩
    obtain ⟨B, hB⟩ : ∃ B, B = decide (okGran b) := ⟨_, rfl⟩
    rw [← hB]
    clear hB
    cases B
    all_goals
      go_wp2
      go_ret
      exact ⟨by rw [HA.out]; rfl, rfl⟩

/-- A tier, or a projection: its age or tier, its granularity, its dimensions. -/
structure TZ where
  x : Int
  g : Int
  A : Option Addr
  n : Nat
  c : Nat
  D : List ByteArray
structure PZ where
  tA : Option Addr
  tn : Nat
  tc : Nat
  T : List TZ
  jA : Option Addr
  jn : Nat
  jc : Nat
  J : List TZ
  hor : Int
structure XZ where
  frm : Int
  upto : Int
  tier : Int
  proj : Int
  rows : Int
deriving DecidableEq
structure SZ where
  name : ByteArray
  tier : Int
  proj : Int
  rows : Int
def encTZ (z : TZ) : List Value := [.int .i64 z.x, .int .i64 z.g, .slice z.A z.n z.c]
def encX (x : XZ) : List Value := [.int .i64 x.frm, .int .i64 x.upto, .int .i64 x.tier, .int .i64 x.proj, .int .i64 x.rows]
def encSZ (x : SZ) : List Value := [.string x.name, .int .i64 x.tier, .int .i64 x.proj, .int .i64 x.rows]
def cellsTZ (L : List TZ) : List Value := L.flatMap encTZ
def cellsX (L : List XZ) : List Value := L.flatMap encX
def cellsS (L : List SZ) : List Value := L.flatMap encSZ
theorem cellsX_length (L : List XZ) : (cellsX L).length = L.length * 5 := flat_len encX 5 (fun _ => rfl) L
theorem cellsX_app (L M : List XZ) : cellsX (L ++ M) = cellsX L ++ cellsX M := by simp [cellsX]
theorem cellsX_cons (x : XZ) (L : List XZ) : cellsX (x :: L) = encX x ++ cellsX L := by simp [cellsX]
theorem tz_cells {w : World} {A : Option Addr} {L : List TZ} (h : Row w A (cellsTZ L)) {k : Nat} (hk : k < L.length) :
    ∃ b off, A = some ⟨b, off, none⟩ ∧ w.cell? ⟨b, off + k * 3, none⟩ = some (.int .i64 L[k].x) ∧ w.cell? ⟨b, off + k * 3 + 1, none⟩ = some (.int .i64 L[k].g) ∧ w.cell? ⟨b, off + k * 3 + 2, none⟩ = some (.slice L[k].A L[k].n L[k].c) := by
  have g := fun j u hu => flat_get encTZ 3 (fun _ => rfl) L k hk j u hu
  rcases h with h | ⟨b, off, rfl, hc⟩
  · have := flat_len encTZ 3 (fun _ => rfl) L
    unfold cellsTZ at h
    rw [h] at this; simp at this; omega
  · exact ⟨b, off, rfl, hc _ _ (g 0 _ rfl), hc _ _ (g 1 _ rfl), hc _ _ (g 2 _ rfl)⟩
theorem x_cells {w : World} {A : Option Addr} {L : List XZ} (h : Row w A (cellsX L)) {k : Nat} (hk : k < L.length) :
    ∃ b off, A = some ⟨b, off, none⟩ ∧ w.cell? ⟨b, off + k * 5, none⟩ = some (.int .i64 L[k].frm) ∧ w.cell? ⟨b, off + k * 5 + 1, none⟩ = some (.int .i64 L[k].upto) ∧ w.cell? ⟨b, off + k * 5 + 2, none⟩ = some (.int .i64 L[k].tier) ∧ w.cell? ⟨b, off + k * 5 + 3, none⟩ = some (.int .i64 L[k].proj) ∧ w.cell? ⟨b, off + k * 5 + 4, none⟩ = some (.int .i64 L[k].rows) := by
  have g := fun j u hu => flat_get encX 5 (fun _ => rfl) L k hk j u hu
  rcases h with h | ⟨b, off, rfl, hc⟩
  · have := cellsX_length L
    rw [h] at this; simp at this; omega
  · exact ⟨b, off, rfl, hc _ _ (g 0 _ rfl), hc _ _ (g 1 _ rfl), hc _ _ (g 2 _ rfl), hc _ _ (g 3 _ rfl), hc _ _ (g 4 _ rfl)⟩
theorem sz_cells {w : World} {A : Option Addr} {L : List SZ} (h : Row w A (cellsS L)) {k : Nat} (hk : k < L.length) :
    ∃ b off, A = some ⟨b, off, none⟩ ∧ w.cell? ⟨b, off + k * 4, none⟩ = some (.string L[k].name) ∧ w.cell? ⟨b, off + k * 4 + 1, none⟩ = some (.int .i64 L[k].tier) ∧ w.cell? ⟨b, off + k * 4 + 2, none⟩ = some (.int .i64 L[k].proj) ∧ w.cell? ⟨b, off + k * 4 + 3, none⟩ = some (.int .i64 L[k].rows) := by
  have g := fun j u hu => flat_get encSZ 4 (fun _ => rfl) L k hk j u hu
  rcases h with h | ⟨b, off, rfl, hc⟩
  · have := flat_len encSZ 4 (fun _ => rfl) L
    unfold cellsS at h
    rw [h] at this; simp at this; omega
  · exact ⟨b, off, rfl, hc _ _ (g 0 _ rfl), hc _ _ (g 1 _ rfl), hc _ _ (g 2 _ rfl), hc _ _ (g 3 _ rfl)⟩
/-- Tiers, or projections, in memory. -/
structure TsIn (w : World) (A : Option Addr) (n c : Nat) (L : List TZ) : Prop where
  row : Row w A (cellsTZ L)
  len : n = L.length
  cap : n ≤ c
  max : n ≤ 9223372036854775807
  each : ∀ z ∈ L, StrsIn w z.A z.n z.c z.D
theorem TsIn.keep {w w' : World} {B : Nat} {A : Option Addr} {n c : Nat} {L : List TZ} (h : TsIn w A n c L) (hB : w.heap.size ≤ B) (hb : Below B w w') : TsIn w' A n c L :=
  { h with row := h.row.keep hB hb, each := fun z hz => (h.each z hz).keep hB hb }
structure PIn (w : World) (p : PZ) : Prop where
  t : TsIn w p.tA p.tn p.tc p.T
  j : TsIn w p.jA p.jn p.jc p.J
theorem PIn.keep {w w' : World} {B : Nat} {p : PZ} (h : PIn w p) (hB : w.heap.size ≤ B) (hb : Below B w w') : PIn w' p := ⟨h.t.keep hB hb, h.j.keep hB hb⟩
theorem p_cells {p : PZ} {W : World} {Q : Nat} (h : Blk W Q 28 #[.slice p.tA p.tn p.tc, .slice p.jA p.jn p.jc, .int .i64 p.hor]) : W.cell? ⟨Q, 0, none⟩ = some (.slice p.tA p.tn p.tc) ∧ W.cell? ⟨Q, 1, none⟩ = some (.slice p.jA p.jn p.jc) ∧ W.cell? ⟨Q, 2, none⟩ = some (.int .i64 p.hor) :=
  ⟨by rw [h.cell 0]; rfl, by rw [h.cell 1]; rfl, by rw [h.cell 2]; rfl⟩
theorem xz_cells {x : XZ} {W : World} {Q : Nat} (h : Blk W Q 49 #[.int .i64 x.frm, .int .i64 x.upto, .int .i64 x.tier, .int .i64 x.proj, .int .i64 x.rows]) : W.cell? ⟨Q, 0, none⟩ = some (.int .i64 x.frm) ∧ W.cell? ⟨Q, 1, none⟩ = some (.int .i64 x.upto) ∧ W.cell? ⟨Q, 2, none⟩ = some (.int .i64 x.tier) ∧ W.cell? ⟨Q, 3, none⟩ = some (.int .i64 x.proj) ∧ W.cell? ⟨Q, 4, none⟩ = some (.int .i64 x.rows) :=
  ⟨by rw [h.cell 0]; rfl, by rw [h.cell 1]; rfl, by rw [h.cell 2]; rfl, by rw [h.cell 3]; rfl, by rw [h.cell 4]; rfl⟩
/-- The one at a place. -/
def atZ (L : List TZ) (i : Int) : Option TZ := if 0 ≤ i then L[i.toNat]? else none
/-- A plan's cuboid. -/
def cubC (p : PZ) (t j : Int) : Option TZ := (atZ p.T t).bind fun z => if j = -1 then some z else (atZ p.J j).bind fun y => if y.x = t then some y else none
def cubV : Option TZ → Value
  | none => .tuple #[.slice none 0 0, .int .i64 0, .bool false]
  | some z => .tuple #[.slice z.A z.n z.c, .int .i64 z.g, .bool true]
theorem atZ_none {L : List TZ} {i : Int} (h : i < 0 ∨ (L.length : Int) ≤ i) : atZ L i = none := by
  unfold atZ
  rcases h with h | h
  · rw [if_neg (by omega)]
  · rw [if_pos (by omega)]; exact List.getElem?_eq_none (by omega)
theorem atZ_some {L : List TZ} {k : Nat} (h : k < L.length) : atZ L (k : Int) = some L[k] := by
  unfold atZ
  rw [if_pos (by omega)]; simp [h]
theorem atZ_mem {L : List TZ} {i : Int} {z : TZ} (h : atZ L i = some z) : z ∈ L ∧ 0 ≤ i ∧ i < L.length := by
  unfold atZ at h
  split at h
  · rename_i h0
    obtain ⟨h1, h2⟩ := List.getElem?_eq_some_iff.1 h
    exact ⟨by rw [← h2]; exact List.getElem_mem _, h0, by omega⟩
  · cases h
end Go.Proofs.Ytgaallkdfcckpaa
