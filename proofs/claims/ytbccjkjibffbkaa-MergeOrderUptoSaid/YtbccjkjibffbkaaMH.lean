/- A heap in a list, as plain mathematics: what going up and going down keep. Cursors in memory; which one stands above another (79). The cursors' methods: Len, Swap, Push, Pop. The heap in memory; Push (81), Pop (80). Pop (80), Len (34) of the cursors; their methods behind the interface. The order of cursors; the methods behind the interface; up (51). -/
import Derived.Test.YtbccjkjibffbkaaRows
import Derived.Test.YtbccjkjibffbkaaSM
import Derived.Deep.RegionHeld3
import Derived.RegionTactic
import Derived.BigRegion
import Derived.Deep.RegionLaw
import Derived.RangeFuncBox
namespace Go.Proofs.Ytbccjkjibffbkaa
section
variable {α : Type} (lt : α → α → Bool)
/-- An order: none is below itself the other way about; what is not below goes on. -/
structure OrdL : Prop where
  asym : ∀ a b, lt a b = true → lt b a = false
  trans : ∀ a b c, lt b a = false → lt c b = false → lt c a = false
def swapF (f : Nat → α) (i j : Nat) : Nat → α := fun k => if k = i then f j else if k = j then f i else f k
def HeapOk (n : Nat) (f : Nat → α) : Prop := ∀ k, 0 < k → k < n → lt (f k) (f ((k - 1) / 2)) = false
def UpOk (n : Nat) (f : Nat → α) (j : Nat) : Prop :=
  (∀ k, 0 < k → k < n → k ≠ j → lt (f k) (f ((k - 1) / 2)) = false) ∧ (∀ k, 0 < k → k < n → (k - 1) / 2 = j → 0 < j → lt (f k) (f ((j - 1) / 2)) = false)
def DownOk (n : Nat) (f : Nat → α) (i : Nat) : Prop :=
  (∀ k, 0 < k → k < n → (k - 1) / 2 ≠ i → lt (f k) (f ((k - 1) / 2)) = false) ∧ (∀ k, 0 < k → k < n → (k - 1) / 2 = i → 0 < i → lt (f k) (f ((i - 1) / 2)) = false)
variable {lt}
theorem swap_l (f : Nat → α) (i j : Nat) : swapF f i j i = f j := by simp [swapF]
theorem swap_r (f : Nat → α) (i j : Nat) : swapF f i j j = f i := by
  unfold swapF
  split
  · rename_i h; rw [h]
  · rw [if_pos rfl]
theorem swap_o (f : Nat → α) {i j k : Nat} (h1 : k ≠ i) (h2 : k ≠ j) : swapF f i j k = f k := by simp [swapF, h1, h2]
theorem up_start {n : Nat} {f : Nat → α} (h : HeapOk lt n f) : UpOk lt (n + 1) f n :=
  ⟨fun k h0 hk hn => h k h0 (by omega), fun k h0 hk he hn => by omega⟩
theorem up_done {n j : Nat} {f : Nat → α} (h : UpOk lt n f j) (hj : j = 0 ∨ lt (f j) (f ((j - 1) / 2)) = false) : HeapOk lt n f := fun k h0 hk => by
  by_cases e : k = j
  · subst e
    rcases hj with hj | hj
    · omega
    · exact hj
  · exact h.1 k h0 hk e
theorem up_step (O : OrdL lt) {n j : Nat} {f : Nat → α} (h : UpOk lt n f j) (h0 : 0 < j) (hj : j < n) (hl : lt (f j) (f ((j - 1) / 2)) = true) : UpOk lt n (swapF f ((j - 1) / 2) j) ((j - 1) / 2) := by
  obtain ⟨i, hi⟩ : ∃ i, i = (j - 1) / 2 := ⟨_, rfl⟩
  rw [← hi] at hl ⊢
  have hij : i < j := by omega
  have hgp : 0 < i → lt (f i) (f ((i - 1) / 2)) = false := fun h1 => h.1 i h1 (by omega) (by omega)
  have hlf : lt (f i) (f j) = false := O.asym _ _ hl
  refine ⟨fun k k0 kn ki => ?_, fun k k0 kn ke i0 => ?_⟩
  · by_cases kj : k = j
    · subst kj
      rw [swap_r, ← hi, swap_l]; exact hlf
    · rw [swap_o f ki kj]
      by_cases kp : (k - 1) / 2 = i
      · rw [kp, swap_l]
        have h1 := h.1 k k0 kn kj
        rw [kp] at h1
        exact O.trans _ _ _ hlf h1
      · by_cases kq : (k - 1) / 2 = j
        · rw [kq, swap_r]
          have := h.2 k k0 kn kq h0
          rw [← hi] at this
          exact this
        · rw [swap_o f kp kq]
          exact h.1 k k0 kn kj
  · have hp : (i - 1) / 2 ≠ i := by omega
    have hp2 : (i - 1) / 2 ≠ j := by omega
    rw [swap_o f hp hp2]
    by_cases kj : k = j
    · subst kj
      rw [swap_r]; exact hgp i0
    · have ki : k ≠ i := by omega
      rw [swap_o f ki kj]
      have h1 := h.1 k k0 kn kj
      rw [ke] at h1
      exact O.trans _ _ _ (hgp i0) h1
theorem down_start {n : Nat} {f : Nat → α} (h : HeapOk lt (n + 1) f) : DownOk lt n (swapF f 0 n) 0 := by
  refine ⟨fun k k0 kn kp => ?_, fun k k0 kn kp i0 => by omega⟩
  rw [swap_o f (by omega) (by omega), swap_o f kp (by omega)]
  exact h k k0 (by omega)
theorem down_done {n i : Nat} {f : Nat → α} (h : DownOk lt n f i) (hc : ∀ k, 0 < k → k < n → (k - 1) / 2 = i → lt (f k) (f i) = false) : HeapOk lt n f := fun k k0 kn => by
  by_cases e : (k - 1) / 2 = i
  · rw [e]; exact hc k k0 kn e
  · exact h.1 k k0 kn e
theorem down_step (O : OrdL lt) {n i j : Nat} {f : Nat → α} (h : DownOk lt n f i) (hj0 : 0 < j) (hjn : j < n) (hji : (j - 1) / 2 = i) (hl : lt (f j) (f i) = true) (hs : ∀ k, 0 < k → k < n → (k - 1) / 2 = i → lt (f k) (f j) = false) : DownOk lt n (swapF f i j) j := by
  have hij : i < j := by omega
  have hlf : lt (f i) (f j) = false := O.asym _ _ hl
  refine ⟨fun k k0 kn kp => ?_, fun k k0 kn kp _ => ?_⟩
  · by_cases ki : k = i
    · subst ki
      rw [swap_l]
      have hq : (k - 1) / 2 ≠ k := by omega
      rw [swap_o f hq (by omega)]
      exact h.2 j hj0 hjn hji k0
    · by_cases kj : k = j
      · subst kj
        rw [swap_r, hji, swap_l]; exact hlf
      · rw [swap_o f ki kj]
        by_cases kq : (k - 1) / 2 = i
        · rw [kq, swap_l]
          exact hs k k0 kn kq
        · rw [swap_o f kq kp]
          exact h.1 k k0 kn kq
  · rw [hji, swap_l]
    have ki : k ≠ i := by omega
    have kj : k ≠ j := by omega
    rw [swap_o f ki kj]
    have h1 := h.1 k k0 kn (by omega)
    rw [kp] at h1
    exact h1
theorem top_min (O : OrdL lt) {n : Nat} {f : Nat → α} (h : HeapOk lt n f) : ∀ k, k < n → lt (f k) (f 0) = false := by
  intro k
  induction k using Nat.strongRecOn with
  | ind k ih =>
    intro kn
    by_cases k0 : k = 0
    · subst k0
      cases e : lt (f 0) (f 0) with
      | false => rfl
      | true => have := O.asym _ _ e; rw [e] at this; cases this
    · exact O.trans _ _ _ (ih ((k - 1) / 2) (by omega) (by omega)) (h k (by omega) kn)
theorem heap_less {n m : Nat} {f : Nat → α} (h : HeapOk lt n f) (hm : m ≤ n) : HeapOk lt m f := fun k k0 km => h k k0 (by omega)
theorem heap_ext {n : Nat} {f g : Nat → α} (h : HeapOk lt n f) (e : ∀ k, k < n → f k = g k) : HeapOk lt n g := fun k k0 kn => by
  rw [← e k kn, ← e ((k - 1) / 2) (by omega)]; exact h k k0 kn
end
/-- The list of the first n. -/
def seqF {α : Type} (f : Nat → α) (n : Nat) : List α := (List.range n).map f
theorem seqF_len {α : Type} (f : Nat → α) (n : Nat) : (seqF f n).length = n := by simp [seqF]
theorem seqF_get {α : Type} (f : Nat → α) (n k : Nat) (h : k < (seqF f n).length) : (seqF f n)[k] = f k := by simp [seqF]
theorem seqF_succ {α : Type} (f : Nat → α) (n : Nat) : seqF f (n + 1) = seqF f n ++ [f n] := by simp [seqF, List.range_succ]
theorem seqF_ext {α : Type} {f g : Nat → α} {n : Nat} (h : ∀ k, k < n → f k = g k) : seqF f n = seqF g n := by
  unfold seqF
  exact List.map_congr_left fun k hk => h k (List.mem_range.1 hk)
end Go.Proofs.Ytbccjkjibffbkaa
namespace Go.Proofs.Ytbccjkjibffbkaa
open Go.RowKit Go.Shelf
set_option linter.unusedSimpArgs false
set_option linter.unusedVariables false
section
variable {α : Type} (enc : α → List Value) (W : Nat) (hW : ∀ x, (enc x).length = W)
include hW
theorem encs_len : ∀ L : List α, (L.flatMap enc).length = L.length * W := by
  intro L
  induction L with
  | nil => simp
  | cons z L ih => rw [List.flatMap_cons, List.length_append, ih, hW, List.length_cons, Nat.succ_mul]; omega
theorem encs_get : ∀ (L : List α) (k : Nat) (h : k < L.length) (j : Nat) (u : Value), (enc L[k])[j]? = some u → (L.flatMap enc)[k * W + j]? = some u := by
  intro L
  induction L with
  | nil => intro k h; simp at h
  | cons z L ih =>
    intro k h j u hu
    have hj : j < W := by
      rcases Nat.lt_or_ge j W with h1 | h1
      · exact h1
      · rw [List.getElem?_eq_none (by rw [hW]; exact h1)] at hu; cases hu
    rw [List.flatMap_cons]
    cases k with
    | zero => rw [List.getElem?_append_left (by rw [hW]; omega)]; simpa using hu
    | succ k =>
      rw [List.getElem?_append_right (by rw [hW, Nat.succ_mul]; omega)]
      have e : (k + 1) * W + j - (enc z).length = k * W + j := by rw [hW, Nat.succ_mul]; omega
      rw [e]
      exact ih k (by simpa using h) j u (by simpa using hu)
end
/-- What is left of a list, and which list it is. -/
structure Cu where
  A : Option Addr
  n : Nat
  c : Nat
  Z : List RZ
  id : Nat
def encU (x : Cu) : List Value := [.slice x.A x.n x.c, .int .i64 x.id]
def cellsU (L : List Cu) : List Value := L.flatMap encU
structure CuOk (w : World) (x : Cu) : Prop where
  rows : RowsC w x.A x.Z
  len : x.n = x.Z.length
  ne : 0 < x.n
  cap : x.n ≤ x.c
  max : x.c ≤ 9223372036854775807
  id : x.id ≤ 2000000
theorem CuOk.keep {w w' : World} {x : Cu} (h : CuOk w x) (hb : Below w.heap.size w w') : CuOk w' x := { h with rows := h.rows.keep hb }
def Cu.hd (x : Cu) : RZ := x.Z.headD (RC.zero, RV.zero)
theorem Cu.hd_get {x : Cu} (h : 0 < x.Z.length) : x.Z[0] = x.hd := by
  obtain ⟨A, n, c, Z, id⟩ := x
  cases Z with
  | nil => simp at h
  | cons z Z => rfl
theorem cu_cells {w : World} {H : Option Addr} {L : List Cu} (h : Row w H (cellsU L)) {k : Nat} (hk : k < L.length) :
    ∃ b off, H = some ⟨b, off, none⟩ ∧ w.cell? ⟨b, off + k * 2, none⟩ = some (.slice L[k].A L[k].n L[k].c) ∧ w.cell? ⟨b, off + k * 2 + 1, none⟩ = some (.int .i64 L[k].id) := by
  have g := fun j u hu => encs_get encU 2 (fun _ => rfl) L k hk j u hu
  rcases h with h | ⟨b, off, rfl, hc⟩
  · have := encs_len encU 2 (fun _ => rfl) L
    unfold cellsU at h
    rw [h] at this; simp at this; omega
  · exact ⟨b, off, rfl, hc _ _ (g 0 _ rfl), hc _ _ (g 1 _ rfl)⟩
theorem hd_cells {w : World} {x : Cu} (h : CuOk w x) : ∃ b off, x.A = some ⟨b, off, none⟩ ∧ w.cell? ⟨b, off, none⟩ = some (.int .i64 x.hd.2.t) ∧ w.cell? ⟨b, off + 1, none⟩ = some (.slice x.hd.1.D x.hd.1.n x.hd.1.c) ∧ w.cell? ⟨b, off + 2, none⟩ = some (.int .i64 x.hd.2.count) ∧ w.cell? ⟨b, off + 3, none⟩ = some (.slice x.hd.1.G x.hd.1.gn x.hd.1.gc) ∧ Good w x.hd := by
  have h0 : 0 < x.Z.length := by rw [← h.len]; exact h.ne
  obtain ⟨b, off, e, q0, q1, q2, q3⟩ := h.rows.at h0
  rw [Cu.hd_get h0] at q0 q1 q2 q3
  simp only [Nat.zero_mul, Nat.add_zero] at q0 q1 q2 q3
  have hg := h.rows.good x.Z[0] (List.getElem_mem _)
  rw [Cu.hd_get h0] at hg
  exact ⟨b, off, e, q0, q1, q2, q3, hg⟩
def orI (a b : Int) : Int := if a = 0 then b else a
theorem orI_any (A : Option Addr) (c : Nat) (a b : Int) (w : World) (hA : Row w A [.int .i64 a, .int .i64 b]) : Calls Try.prog 36 #[.slice A 2 c] w fun e w' => e = .returned (.int .i64 (orI a b)) ∧ w = w' := or_any A c a b w hA
def cmpU (x y : Cu) : Int := orI (cmpV x.hd.2 y.hd.2) (cmpI x.id y.id)
def ltU (x y : Cu) : Bool := decide (cmpU x y < 0)
set_option maxRecDepth 100000 in
set_option maxHeartbeats 16000000 in
theorem less_u (H : Option Addr) (n c i j : Nat) (L : List Cu) (w : World) (hH : Row w H (cellsU L)) (hn : n = L.length) (hn2 : n ≤ 2000000) (hi : i < L.length) (hj : j < L.length) (hx : CuOk w L[i]) (hy : CuOk w L[j]) :
    Calls Try.prog 79 #[.slice H n c, .int .i64 i, .int .i64 j] w fun e w' => e = .returned (.bool (ltU L[i] L[j])) ∧ Below w.heap.size w w' := by
  obtain ⟨x, hxe⟩ : ∃ x, x = L[i] := ⟨_, rfl⟩
  obtain ⟨y, hye⟩ : ∃ y, y = L[j] := ⟨_, rfl⟩
  obtain ⟨b, off, hHe, -, -⟩ := cu_cells hH hi
  rw [← hxe] at hx ⊢
  rw [← hye] at hy ⊢
  obtain ⟨bx, ox, hxA, -⟩ := hd_cells hx
  obtain ⟨by', oy, hyA, -⟩ := hd_cells hy
  have HCE := Lib.hid (fun W (hW : Below w.heap.size w W) => show (W.cell? ⟨b, off + i * 2, none⟩ = some (.slice (some ⟨bx, ox, none⟩) x.n x.c) ∧ W.cell? ⟨b, off + i * 2 + 1, none⟩ = some (.int .i64 x.id) ∧ W.cell? ⟨b, off + j * 2, none⟩ = some (.slice (some ⟨by', oy, none⟩) y.n y.c) ∧ W.cell? ⟨b, off + j * 2 + 1, none⟩ = some (.int .i64 y.id) ∧ W.cell? ⟨bx, ox, none⟩ = some (.int .i64 x.hd.2.t) ∧ W.cell? ⟨bx, ox + 1, none⟩ = some (.slice x.hd.1.D x.hd.1.n x.hd.1.c) ∧ W.cell? ⟨bx, ox + 2, none⟩ = some (.int .i64 x.hd.2.count) ∧ W.cell? ⟨bx, ox + 3, none⟩ = some (.slice x.hd.1.G x.hd.1.gn x.hd.1.gc) ∧ W.cell? ⟨by', oy, none⟩ = some (.int .i64 y.hd.2.t) ∧ W.cell? ⟨by', oy + 1, none⟩ = some (.slice y.hd.1.D y.hd.1.n y.hd.1.c) ∧ W.cell? ⟨by', oy + 2, none⟩ = some (.int .i64 y.hd.2.count) ∧ W.cell? ⟨by', oy + 3, none⟩ = some (.slice y.hd.1.G y.hd.1.gn y.hd.1.gc)) from by
    have hH2 := hH.keep (Nat.le_refl _) hW
    obtain ⟨b1, o1, e1, q0, q1⟩ := cu_cells hH2 hi
    obtain ⟨b2, o2, e2, r0, r1⟩ := cu_cells hH2 hj
    rw [hHe] at e1 e2
    cases e1; cases e2
    obtain ⟨b3, o3, e3, x0, x1, x2, x3, -⟩ := hd_cells (hx.keep hW)
    obtain ⟨b4, o4, e4, y0, y1, y2, y3, -⟩ := hd_cells (hy.keep hW)
    rw [hxA] at e3
    rw [hyA] at e4
    cases e3; cases e4
    rw [← hxe, hxA] at q0
    rw [← hxe] at q1
    rw [← hye, hyA] at r0
    rw [← hye] at r1
    exact ⟨q0, q1, r0, r1, x0, x1, x2, x3, y0, y1, y2, y3⟩)
  obtain ⟨q0, q1, r0, r1, x0, x1, x2, x3, y0, y1, y2, y3⟩ := HCE.out w (Below.refl _ _)
  obtain ⟨-, -, -, -, -, -, -, hgx⟩ := hd_cells hx
  obtain ⟨-, -, -, -, -, -, -, hgy⟩ := hd_cells hy
  have HCM := Lib.hid (fun W (hW : Below w.heap.size w W) => compare_any x.hd.2.t y.hd.2.t x.hd.2.count y.hd.2.count x.hd.1.D y.hd.1.D x.hd.1.G y.hd.1.G x.hd.1.n x.hd.1.c y.hd.1.n y.hd.1.c x.hd.1.gn x.hd.1.gc y.hd.1.gn y.hd.1.gc x.hd.2.dims y.hd.2.dims W (hgx.keep hW).rd (hgy.keep hW).rd hgx.nd hgy.nd (by have := hgx.sd; omega) (by have := hgy.sd; omega))
  obtain ⟨k1, hk1⟩ : ∃ k, k = cmpK x.hd.2.t y.hd.2.t x.hd.2.dims y.hd.2.dims := ⟨_, rfl⟩
  obtain ⟨k2, hk2⟩ : ∃ k, k = cmpI x.id y.id := ⟨_, rfl⟩
  have HCI := Lib.hid (fun W => cmpI_any x.id y.id W)
  rw [← hk1] at HCM
  rw [← hk2] at HCI
  obtain ⟨k3, hk3⟩ : ∃ k, k = orI k1 k2 := ⟨_, rfl⟩
  have HOR := Lib.hid (fun A c W (hA : Row W A [.int .i64 k1, .int .i64 k2]) => orI_any A c k1 k2 W hA)
  rw [← hk3] at HOR
  have HLT := Lib.hid (show ltU x y = decide (k3 < 0) by unfold ltU cmpU cmpV; rw [← hk1, ← hk2, ← hk3])
  have hxn := hx.ne
  have hyn := hy.ne
  have hxm : x.n ≤ 9223372036854775807 := Nat.le_trans hx.cap hx.max
  have hym : y.n ≤ 9223372036854775807 := Nat.le_trans hy.cap hy.max
  have hi0 : (0 : Int) ≤ (i : Int) := by omega
  have hj0 : (0 : Int) ≤ (j : Int) := by omega
  have hin : (i : Int) < (n : Int) := by omega
  have hjn : (j : Int) < (n : Int) := by omega
  have hxz : (0 : Int) < (x.n : Int) := by omega
  have hyz : (0 : Int) < (y.n : Int) := by omega
  rw [hHe, HLT.out]
  have HB0 := Lib.hid (below_drewN (Below.refl w.heap.size w) 1)
  clear hxe hye hH hn hx hy hgx hgy hk1 hk2 hk3 hHe hxA hyA HLT
  go_enter Try.func79, Try.ntmps79
  go_upto_region 1 with fail
  go_region_held3 (fun W => (W.cell? ⟨b, off + i * 2, none⟩ = some (.slice (some ⟨bx, ox, none⟩) x.n x.c) ∧ W.cell? ⟨b, off + i * 2 + 1, none⟩ = some (.int .i64 x.id) ∧ W.cell? ⟨b, off + j * 2, none⟩ = some (.slice (some ⟨by', oy, none⟩) y.n y.c) ∧ W.cell? ⟨b, off + j * 2 + 1, none⟩ = some (.int .i64 y.id) ∧ W.cell? ⟨bx, ox, none⟩ = some (.int .i64 x.hd.2.t) ∧ W.cell? ⟨bx, ox + 1, none⟩ = some (.slice x.hd.1.D x.hd.1.n x.hd.1.c) ∧ W.cell? ⟨bx, ox + 2, none⟩ = some (.int .i64 x.hd.2.count) ∧ W.cell? ⟨bx, ox + 3, none⟩ = some (.slice x.hd.1.G x.hd.1.gn x.hd.1.gc) ∧ W.cell? ⟨by', oy, none⟩ = some (.int .i64 y.hd.2.t) ∧ W.cell? ⟨by', oy + 1, none⟩ = some (.slice y.hd.1.D y.hd.1.n y.hd.1.c) ∧ W.cell? ⟨by', oy + 2, none⟩ = some (.int .i64 y.hd.2.count) ∧ W.cell? ⟨by', oy + 3, none⟩ = some (.slice y.hd.1.G y.hd.1.gn y.hd.1.gc)) ∧ Below w.heap.size w W)
    (first
      | exact ⟨HCE.out _ HB0.out, HB0.out⟩
      | exact ⟨HCE.out _ hz1, hz1⟩
      | exact ⟨HCE.out _ (bpush hz1 _), bpush hz1 _⟩)
    (first
      | (go_at_call 36
         refine (HOR.out _ _ _ (Row.made (t := 3) rfl rfl)).mono ?_
         rintro e x3 ⟨rfl, rfl⟩)
      | (go_at_call 37
         refine (HCI.out _).mono ?_
         rintro e x2 ⟨rfl, rfl⟩)
      | (go_at_call 18
         refine (HCM.out _ HB0.out).mono ?_
         rintro e x1 ⟨rfl, hb⟩
         have hz1 : Below w.heap.size w x1 := HB0.out.trans (hb.mono HB0.out.size)))
  have HZ1 := Lib.hid (bpush hz1 (.cells #[.int .i64 k1, .int .i64 k2] 3))
  go_wp2_with fail
  go_ret
  exact ⟨rfl, HZ1.out⟩
end Go.Proofs.Ytbccjkjibffbkaa
namespace Go.Proofs.Ytbccjkjibffbkaa
open Go.RowKit Go.Shelf
set_option linter.unusedSimpArgs false
set_option linter.unusedVariables false
theorem own_frozen {w : World} {B : Nat} {e : TypeId} {size : Nat} {g cap n : Nat} {xs : List Value} (h : w.ownsRow B e size (.slice (some ⟨g, 0, none⟩) n cap) n xs) : ∀ o, w.frozen? ⟨g, o, none⟩ = false := by
  intro o
  rcases h.2 with ⟨h1, _⟩ | ⟨g', cap', cur, h1, _, hh, _⟩
  · cases h1
  · cases h1
    simp [World.frozen?, hh]
theorem cellsU_cons (x : Cu) (L : List Cu) : cellsU (x :: L) = encU x ++ cellsU L := by simp [cellsU]
theorem cellsU_set : ∀ (L : List Cu) (k : Nat) (y : Cu), k < L.length → ((cellsU L).set (k * 2) (.slice y.A y.n y.c)).set (k * 2 + 1) (.int .i64 y.id) = cellsU (L.set k y) := by
  intro L
  induction L with
  | nil => intro k y h; simp at h
  | cons x L ih =>
    intro k y h
    cases k with
    | zero => rw [List.set_cons_zero, cellsU_cons, cellsU_cons]; rfl
    | succ k =>
      rw [List.set_cons_succ, cellsU_cons, cellsU_cons, ← ih k y (by simpa using h)]
      have e : (k + 1) * 2 = k * 2 + 2 := by omega
      rw [e]
      show (((Value.slice x.A x.n x.c :: Value.int .i64 x.id :: cellsU L).set (k * 2 + 2) _).set (k * 2 + 2 + 1) _) = _
      rfl
theorem seq_swap {f : Nat → Cu} {n i j : Nat} (hi : i < n) (hj : j < n) : ((seqF f n).set i (f j)).set j (f i) = seqF (swapF f i j) n := by
  refine List.ext_getElem (by simp [seqF]) fun k h1 h2 => ?_
  rw [seqF_get, List.getElem_set]
  split
  · rename_i e; subst e; rw [swap_r]
  · rename_i e
    rw [List.getElem_set]
    split
    · rename_i e2; subst e2; rw [swap_l]
    · rename_i e2
      rw [seqF_get, swap_o f (fun h => e2 h.symm) (fun h => e h.symm)]
set_option maxRecDepth 100000 in
set_option maxHeartbeats 16000000 in
theorem swap_walk (g i j n c : Nat) (x y : Cu) (w : World) (hi : i < n) (hj : j < n) (hn : n ≤ 2000000) (hxy : i = j → x = y)
    (x0 : w.cell? ⟨g, i * 2, none⟩ = some (.slice x.A x.n x.c)) (x1 : w.cell? ⟨g, i * 2 + 1, none⟩ = some (.int .i64 x.id))
    (y0 : w.cell? ⟨g, j * 2, none⟩ = some (.slice y.A y.n y.c)) (y1 : w.cell? ⟨g, j * 2 + 1, none⟩ = some (.int .i64 y.id)) (hf : ∀ o, w.frozen? ⟨g, o, none⟩ = false) :
    Calls Try.prog 82 #[.slice (some ⟨g, 0, none⟩) n c, .int .i64 i, .int .i64 j] w fun e w' => e = .returned (.tuple #[]) ∧ w' = ((((w.setCell ⟨g, i * 2, none⟩ (.slice y.A y.n y.c)).setCell ⟨g, i * 2 + 1, none⟩ (.int .i64 y.id)).setCell ⟨g, j * 2, none⟩ (.slice x.A x.n x.c)).setCell ⟨g, j * 2 + 1, none⟩ (.int .i64 x.id)).drew := by
  have hi0 : (0 : Int) ≤ (i : Int) := by omega
  have hj0 : (0 : Int) ≤ (j : Int) := by omega
  have hin : (i : Int) < (n : Int) := by omega
  have hjn : (j : Int) < (n : Int) := by omega
  have f0 := hf (i * 2)
  have f1 := hf (i * 2 + 1)
  have f2 := hf (j * 2)
  have f3 := hf (j * 2 + 1)
  clear hf
  by_cases hij : i = j
  · obtain rfl := hxy hij
    subst hij
    obtain ⟨k, hk⟩ : ∃ k, k = i * 2 := ⟨_, rfl⟩
    rw [← hk]
    rw [← hk] at x0 x1 y0 y1 f0 f1 f2 f3
    clear y0 y1 f2 f3 hxy
    have HK := Lib.hid hk
    have hk2 : i * 2 = k := hk.symm
    clear hk
    go_enter Try.func82, Try.ntmps82
    go_region
    go_end0
    exact ⟨rfl, rfl⟩
  · clear hxy
    go_enter Try.func82, Try.ntmps82
    go_region
    go_end0
    exact ⟨rfl, rfl⟩
def SwapPost (w : World) (B g cap n : Nat) (f : Nat → Cu) (e : Ending) (w' : World) : Prop :=
  e = .returned (.tuple #[]) ∧ w'.ownsRow B 63 2 (.slice (some ⟨g, 0, none⟩) n cap) n (cellsU (seqF f n)) ∧ w.grownBy w' (some g)
theorem grown_drew {w w' : World} {row : Option Nat} (h : w.grownBy w' row) : w.grownBy w'.drew row := ⟨h.os, h.tape, h.output, h.size, h.block⟩
theorem grown_trans {a b c : World} {row : Option Nat} (h : a.grownBy b row) (k : b.grownBy c row) : a.grownBy c row :=
  ⟨k.os.trans h.os, k.tape.trans h.tape, k.output.trans h.output, Nat.le_trans h.size k.size, fun i hi hne => (k.block i (Nat.lt_of_lt_of_le hi h.size) hne).trans (h.block i hi hne)⟩
theorem swap_u (B g cap n i j : Nat) (f : Nat → Cu) (w : World) (h : w.ownsRow B 63 2 (.slice (some ⟨g, 0, none⟩) n cap) n (cellsU (seqF f n))) (hi : i < n) (hj : j < n) (hn : n ≤ 2000000) :
    Calls Try.prog 82 #[.slice (some ⟨g, 0, none⟩) n cap, .int .i64 i, .int .i64 j] w (SwapPost w B g cap n (swapF f i j)) := by
  have hrow : Row w (some ⟨g, 0, none⟩) (cellsU (seqF f n)) := .inr ⟨g, 0, rfl, fun k u hu => by
    have := h.cells (g := g) rfl k u hu
    unfold Addr.add at this
    split at this
    · rename_i hk; subst hk; simpa using this
    · simpa using this⟩
  have hl := seqF_len f n
  obtain ⟨b1, o1, e1, x0, x1⟩ := cu_cells hrow (k := i) (by omega)
  obtain ⟨b2, o2, e2, y0, y1⟩ := cu_cells hrow (k := j) (by omega)
  cases e1
  cases e2
  rw [seqF_get] at x0 x1 y0 y1
  simp only [Nat.zero_add] at x0 x1 y0 y1
  refine (swap_walk g i j n cap (f i) (f j) w hi hj hn (fun e => by rw [e]) x0 x1 y0 y1 (own_frozen h)).mono ?_
  rintro e w' ⟨rfl, rfl⟩
  obtain ⟨k1, g1⟩ := h.stored (i * 2) (.slice (f j).A (f j).n (f j).c)
  obtain ⟨k2, g2⟩ := k1.stored (i * 2 + 1) (.int .i64 (f j).id)
  obtain ⟨k3, g3⟩ := k2.stored (j * 2) (.slice (f i).A (f i).n (f i).c)
  obtain ⟨k4, g4⟩ := k3.stored (j * 2 + 1) (.int .i64 (f i).id)
  rw [cellsU_set _ _ _ (by omega), cellsU_set _ _ _ (by rw [List.length_set]; omega), seq_swap hi hj] at k4
  exact ⟨rfl, k4, grown_drew (grown_trans (grown_trans (grown_trans g1 g2) g3) g4)⟩
end Go.Proofs.Ytbccjkjibffbkaa
namespace Go.Proofs.Ytbccjkjibffbkaa
open Go.RowKit Go.Shelf
set_option linter.unusedSimpArgs false
set_option linter.unusedVariables false
theorem info63 : (Try.prog.info? 63).map (fun i => (i.zero, i.size, i.bytes)) = some (some (.agg #[.slice none 0 0, .int .i64 0]), 2, 32) := by kernel_rfl
theorem one_cellsU (L : List Cu) : ∀ u ∈ cellsU L, u.oneCell' = true := by
  intro u hu
  obtain ⟨x, _, hx⟩ := List.mem_flatMap.1 hu
  simp [encU] at hx
  rcases hx with rfl | rfl <;> rfl
theorem cellsU_app (L M : List Cu) : cellsU (L ++ M) = cellsU L ++ cellsU M := by simp [cellsU]
theorem cellsU_length (L : List Cu) : (cellsU L).length = L.length * 2 := encs_len encU 2 (fun _ => rfl) L
theorem run_append_cu (w : World) (ty : TypeId) (base : Nat) (v : Value) (n : Nat) (xs : List Value) (hown : w.ownsRow base 63 2 v n xs) (A : Addr) (x : Cu)
    (hrow : Row w (some A) (encU x)) (h63 : (n + 1) * 32 ≤ 140737488355328) (hbase : base ≤ w.heap.size) :
    ∃ v' w', (Builtin.append_ #[60, 60] ty #[v, .slice (some A) 1 1]).run Try.prog w = .ok v' w' ∧ w'.ownsRow base 63 2 v' (n + 1) (xs ++ encU x) ∧ w.grownBy w' v.ownBlock := by
  obtain ⟨i0, hi0, hz0, hz1, hz2⟩ := info_parts info63
  obtain ⟨v', w', hr, h2, h3, _, h5⟩ := run_append_own_at (P := Try.prog) w base 60 ty 63 i0 (.agg #[.slice none 0 0, .int .i64 0]) 2 32 Try.underlying60 hi0 hz0 hz1 hz2 rfl (by decide) v n xs hown A 1 1 (encU x) rfl hrow.at' (fun u hu => one_cellsU [x] u (by simpa [cellsU] using hu)) (by unfold maxLen; omega) h63 hbase
  exact ⟨v', w', hr, h2, h3⟩
theorem step_append_cu {w : World} {ops : Array Oper} {o : Oper} {a : Act} {K : Act → World → Prop} {Q : Exit → Act → World → Prop} {E : Prop} (hgd : o.guard = none) (s x : Operand)
    (ho : o.op = .call { callee := .builtin .append, args := #[s, x], argTypes := #[60, 60] })
    (base : Nat) (v : Value) (n : Nat) (xs : List Value) (hs : a.eval s = v) (A : Addr) (y : Cu) (hx : a.eval x = .slice (some A) 1 1) (hown : w.ownsRow base 63 2 v n xs)
    (hrow : Row w (some A) (encU y)) (h63 : (n + 1) * 32 ≤ 140737488355328) (hbase : base ≤ w.heap.size)
    (h : ∀ v' w', w'.ownsRow base 63 2 v' (n + 1) (xs ++ encU y) → w.grownBy w' v.ownBlock → K (a.put o.dst v') w') :
    if Region.wanted o (yielded ops a.tmps) = true then Oper.wp Try.prog o a w K Q else E := by
  have hw : Region.wanted o (yielded ops a.tmps) = true := by simp [Region.wanted, hgd]
  rw [if_pos hw]
  obtain ⟨v', w', hr, h2, h3⟩ := run_append_cu w o.type base v n xs hown A y hrow h63 hbase
  unfold Oper.wp execOp
  simp only [ho, resolve, invoke, builtin, Sem.run_bind, Sem.run_pure, Result.andThen_ok, List.map_toArray, List.map_cons, List.map_nil, hs, hx, hr]
  exact h v' w' h2 h3
/-- What changed is a heap's, or new. -/
structure KO (a b : World) : Prop where
  os : b.os = a.os
  tape : b.tape = a.tape
  output : b.output = a.output
  size : a.heap.size ≤ b.heap.size
  blk : ∀ i, i < a.heap.size → b.heap[i]? = a.heap[i]? ∨ ∃ cs t, Blk a i t cs ∧ (t = 60 ∨ t = 63)
theorem KO.refl (a : World) : KO a a := ⟨rfl, rfl, rfl, Nat.le_refl _, fun _ _ => .inl rfl⟩
theorem KO.trans {a b c : World} (h : KO a b) (k : KO b c) : KO a c :=
  ⟨k.os.trans h.os, k.tape.trans h.tape, k.output.trans h.output, Nat.le_trans h.size k.size, fun i hi => by
    rcases h.blk i hi with h1 | h1
    · rcases k.blk i (Nat.lt_of_lt_of_le hi h.size) with h2 | ⟨cs, t, h2, ht⟩
      · exact .inl (h2.trans h1)
      · exact .inr ⟨cs, t, h1.symm.trans h2, ht⟩
    · exact .inr h1⟩
theorem KO.below {a b : World} (h : Below a.heap.size a b) : KO a b := ⟨h.os, h.tape, h.output, h.size, fun i hi => .inl (h.block i hi)⟩
theorem KO.grown {a b : World} {row : Option Nat} (hg : a.grownBy b row) (h : ∀ g, row = some g → ∃ cs t, Blk a g t cs ∧ (t = 60 ∨ t = 63)) : KO a b :=
  ⟨hg.os, hg.tape, hg.output, hg.size, fun i hi => by
    by_cases e : some i = row
    · exact .inr (h i e.symm)
    · exact .inl (hg.block i hi e)⟩
theorem KO.row {a b : World} {B n : Nat} {v : Value} {xs : List Value} (ho : a.ownsRow B 63 2 v n xs) (hg : a.grownBy b v.ownBlock) : KO a b := KO.grown hg fun g e => by
  rcases ho.2 with ⟨rfl, _⟩ | ⟨g', cap, cur, rfl, _, hh, _⟩
  · cases e
  · cases e; exact ⟨cur, 63, hh, .inr rfl⟩
theorem KO.cell {a : World} {P : Nat} {cs : Array Value} (h : Blk a P 60 cs) (u : Value) : KO a (a.setCell ⟨P, 0, none⟩ u) := KO.grown (grownBy_setCell' a P u) fun g e => by
  cases e; exact ⟨cs, 60, h, .inl rfl⟩
/-- The heap: a pointer's cell, its row of cursors; what they lead to lies below. -/
structure HeapSt (w0 ws : World) (P n : Nat) (f : Nat → Cu) (w : World) : Prop where
  bel : Below w0.heap.size w0 w
  own : ∃ v, Blk w P 60 #[v] ∧ w.ownsRow w0.heap.size 63 2 v n (cellsU (seqF f n))
  ok : ∀ k, k < n → CuOk w0 (f k)
  far : w0.heap.size ≤ P
  few : n ≤ 2000000
  keep : KO ws w
theorem HeapSt.more {w0 ws w w' : World} {P n : Nat} {f : Nat → Cu} (h : HeapSt w0 ws P n f w) (hb : Below w.heap.size w w') : HeapSt w0 ws P n f w' := by
  obtain ⟨v, h1, h2⟩ := h.own
  exact { h with bel := h.bel.trans (hb.mono h.bel.size), own := ⟨v, (hb.block _ h1.lt).trans h1, own_below h2 hb⟩, keep := h.keep.trans (KO.below hb) }
def HPost (w0 ws : World) (P n : Nat) (f : Nat → Cu) (e : Ending) (w' : World) : Prop := e = .returned (.tuple #[]) ∧ HeapSt w0 ws P n f w'
def addF (f : Nat → Cu) (n : Nat) (x : Cu) : Nat → Cu := fun k => if k = n then x else f k
theorem seq_add (f : Nat → Cu) (n : Nat) (x : Cu) : seqF (addF f n x) (n + 1) = seqF f n ++ [x] := by
  rw [seqF_succ]
  congr 1
  · exact seqF_ext fun k hk => by simp [addF]; omega
  · simp [addF]
theorem own_far {W : World} {B e s n P : Nat} {v u : Value} {xs : List Value} (h : W.ownsRow B e s v n xs) (hP : v.ownBlock ≠ some P) : (W.setCell ⟨P, 0, none⟩ u).ownsRow B e s v n xs :=
  h.kept (grownBy_setCell' W P u) (.inr fun e' => hP e')
theorem push_end {w0 ws w w1 w2 w3 : World} {P n cap c3 : Nat} {f : Nat → Cu} {x : Cu} {H H3 : Option Addr} (hb : Below w0.heap.size w0 w1) (hb2 : Below w1.heap.size w1 w2) (hP3 : Blk w3 P 60 #[.slice H n cap])
    (ho3 : w3.ownsRow w0.heap.size 63 2 (.slice H3 (n + 1) c3) (n + 1) (cellsU (seqF f n) ++ encU x)) (hg3 : w2.grownBy w3 (Value.slice H n cap).ownBlock) (ho2 : w2.ownsRow w0.heap.size 63 2 (.slice H n cap) n (cellsU (seqF f n)))
    (hbw : Below w.heap.size w w1) (h : HeapSt w0 ws P n f w) (hx : CuOk w0 x) (hn : n + 1 ≤ 2000000) : HPost w0 ws P (n + 1) (addF f n x) (.returned (.tuple #[])) (w3.setCell ⟨P, 0, none⟩ (.slice H3 (n + 1) c3)) := by
  have hb12 := hb.trans (hb2.mono hb.size)
  have hb3 := hb12.trans (grown_below4 ho2 hg3 hb12.size)
  refine ⟨rfl, hb3.setCell h.far _, ⟨_, hP3.set_ 0 _, ?_⟩, fun k hk => ?_, h.far, hn, (((h.keep.trans (KO.below hbw)).trans (KO.below hb2)).trans (KO.row ho2 hg3)).trans (KO.cell hP3 _)⟩
  · refine own_far ?_ (ho3.not_blk hP3 (by decide))
    rw [seq_add, cellsU_app]
    simpa [cellsU] using ho3
  · unfold addF
    split
    · exact hx
    · exact h.ok k (by omega)
def ifcU (x : Cu) : Value := .iface 63 (.agg #[.slice x.A x.n x.c, .int .i64 x.id])
set_option maxRecDepth 100000 in
set_option maxHeartbeats 16000000 in
theorem push_u (w0 ws : World) (P n : Nat) (f : Nat → Cu) (x : Cu) (w : World) (h : HeapSt w0 ws P n f w) (hx : CuOk w0 x) (hn : n + 1 ≤ 2000000) :
    Calls Try.prog 81 #[.pointer (some ⟨P, 0, none⟩), ifcU x] w (HPost w0 ws P (n + 1) (addF f n x)) := by
  obtain ⟨v, hP, ho⟩ := h.own
  obtain ⟨H, cap, rfl⟩ := own_is ho
  obtain ⟨w1, hw1⟩ : ∃ w1, w1 = w.alloc (.cells #[.slice x.A x.n x.c, .int .i64 x.id] 63) := ⟨_, rfl⟩
  have hb1 : Below w.heap.size w w1 := by rw [hw1]; exact bpush (Below.refl _ _) _
  have hk1 : Blk w1 w.heap.size 63 #[.slice x.A x.n x.c, .int .i64 x.id] := by rw [hw1]; exact Blk.new _ _ _
  have hP1 : Blk w1 P 60 #[.slice H n cap] := (hb1.block _ hP.lt).trans hP
  have ho1 := own_below ho hb1
  have x0 : w1.cell? ⟨w.heap.size, 0, none⟩ = some (.slice x.A x.n x.c) := by rw [hk1.cell 0]; rfl
  have x1 : w1.cell? ⟨w.heap.size, 1, none⟩ = some (.int .i64 x.id) := by rw [hk1.cell 1]; rfl
  have p0 : w1.cell? ⟨P, 0, none⟩ = some (.slice H n cap) := by rw [hP1.cell 0]; rfl
  have pf := hP1.frozen 0
  have HW1 := Lib.hid hw1
  have HBW := Lib.hid hb1
  have HP1 := Lib.hid hP1
  have HO1 := Lib.hid ho1
  have HBL := Lib.hid (h.bel.trans (hb1.mono h.bel.size))
  have HH := Lib.hid h
  have HX := Lib.hid hx
  have HNN := Lib.hid hn
  have ta : ∀ w, Sem.run Try.prog (Instr.typeAssert (.iface 63 (.agg #[.slice x.A x.n x.c, .int .i64 x.id])) 20 63 true) w = .ok (.tuple #[.agg #[.slice x.A x.n x.c, .int .i64 x.id], .bool true]) w := fun _ => by kernel_rfl
  unfold ifcU
  clear hw1 hb1 hk1 hP1 ho1 hP ho h hx hn
  go_enter Try.func81, Try.ntmps81
  go_upto_region 2 with fail
  rw [← HW1.out]
  have hb2 : Below w1.heap.size w1 (w1.alloc (.cells #[.slice x.A x.n x.c, .int .i64 x.id] 63)).drew := Below.drew (bpush (Below.refl _ _) _)
  have HO2 := Lib.hid (own_below HO1.out hb2)
  have HP2 := Lib.hid ((hb2.block _ HP1.out.lt).trans HP1.out)
  have HB2 := Lib.hid hb2
  have p0' : (w1.alloc (.cells #[.slice x.A x.n x.c, .int .i64 x.id] 63)).cell? ⟨P, 0, none⟩ = some (.slice H n cap) := by
    have : Blk (w1.alloc (.cells #[.slice x.A x.n x.c, .int .i64 x.id] 63)) P 60 #[.slice H n cap] := HP1.out.alloc _
    rw [this.cell 0]; rfl
  clear hb2
  go_region_law (first
    | (refine step_append_cu rfl _ _ rfl w0.heap.size (.slice H n cap) n (cellsU (seqF f n)) rfl ⟨w1.heap.size, 0, none⟩ x rfl ?own ?row ?q1 ?q2 ?_
       case own => exact HO2.out
       case row => exact Row.made (t := 63) rfl rfl
       case q1 => have := HNN.out; omega
       case q2 => exact Nat.le_trans HBL.out.size (by simp)
       intro v3 w3 ho3 hg3
       obtain ⟨H3, cap3, rfl⟩ := own_is ho3
       have hP3 : Blk w3 P 60 #[.slice H n cap] := Blk.grown (HP2.out) hg3 (HO2.out.not_blk HP2.out (by decide))
       have pc3 : w3.cell? ⟨P, 0, none⟩ = some (.slice H n cap) := by rw [hP3.cell 0]; rfl
       have pf3 := hP3.frozen 0
       have HP3 := Lib.hid hP3
       have HO3 := Lib.hid ho3
       have HG3 := Lib.hid hg3
       clear hP3 ho3 hg3))
  all_goals (try go_end0)
  all_goals exact push_end HBL.out HB2.out HP3.out HO3.out HG3.out HO2.out HBW.out HH.out HX.out HNN.out
end Go.Proofs.Ytbccjkjibffbkaa
namespace Go.Proofs.Ytbccjkjibffbkaa
open Go.RowKit Go.Shelf
set_option linter.unusedSimpArgs false
set_option linter.unusedVariables false
theorem own_shrink {W : World} {B e s n g cap : Nat} {xs ys : List Value} (h : W.ownsRow B e s (.slice (some ⟨g, 0, none⟩) (n + 1) cap) (n + 1) (xs ++ ys)) (hx : xs.length = n * s) : W.ownsRow B e s (.slice (some ⟨g, 0, none⟩) n cap) n xs := by
  refine ⟨hx, .inr ?_⟩
  rcases h.2 with ⟨h1, _⟩ | ⟨g', cap', cur, h1, hb, hh, h2, h3, h4, h5⟩
  · cases h1
  · cases h1
    refine ⟨g, cap, cur, rfl, hb, hh, by omega, h3, h4, ?_⟩
    have := congrArg (List.take (n * s)) h5
    rw [List.take_take, List.take_append_of_le_length (by omega), List.take_of_length_le (by omega : xs.length ≤ n * s), Nat.min_eq_left (Nat.mul_le_mul_right s (by omega))] at this
    exact this
theorem heap_row {w0 ws w : World} {P n : Nat} {f : Nat → Cu} (h : HeapSt w0 ws P (n + 1) f w) : ∃ g cap, Blk w P 60 #[.slice (some ⟨g, 0, none⟩) (n + 1) cap] ∧ w.ownsRow w0.heap.size 63 2 (.slice (some ⟨g, 0, none⟩) (n + 1) cap) (n + 1) (cellsU (seqF f (n + 1))) := by
  obtain ⟨v, h1, h2⟩ := h.own
  obtain ⟨g, cap, rfl⟩ := ownsRow_succ h2
  exact ⟨g, cap, h1, h2⟩
theorem own_row_cu {W : World} {B n g cap : Nat} {f : Nat → Cu} (h : W.ownsRow B 63 2 (.slice (some ⟨g, 0, none⟩) n cap) n (cellsU (seqF f n))) : Row W (some ⟨g, 0, none⟩) (cellsU (seqF f n)) := .inr ⟨g, 0, rfl, fun k u hu => by
    have := h.cells (g := g) rfl k u hu
    unfold Addr.add at this
    split at this
    · rename_i hk; subst hk; simpa using this
    · simpa using this⟩
theorem own_cap' {W : World} {B n g cap : Nat} {xs : List Value} (h : W.ownsRow B 63 2 (.slice (some ⟨g, 0, none⟩) n cap) n xs) : n ≤ cap ∧ cap ≤ maxLen := by
  rcases h.2 with ⟨h1, _⟩ | ⟨g', cap', cur, h1, hb, hh, h2, h3, h4, h5⟩
  · cases h1
  · cases h1; exact ⟨h2, h3⟩
set_option maxRecDepth 100000 in
set_option maxHeartbeats 16000000 in
theorem len_u (H : Option Addr) (n c : Nat) (w : World) : Calls Try.prog 34 #[.slice H n c] w fun e w' => e = .returned (.int .i64 n) ∧ w = w' := by
  go_enter Try.func34, Try.ntmps34
  go_wp2
  go_ret
  exact ⟨rfl, rfl⟩
def PopPost (w0 ws : World) (P n : Nat) (f : Nat → Cu) (e : Ending) (w' : World) : Prop := e = .returned (ifcU (f n)) ∧ HeapSt w0 ws P n f w'
set_option maxRecDepth 100000 in
set_option maxHeartbeats 16000000 in
theorem pop_u (w0 ws : World) (P n : Nat) (f : Nat → Cu) (w : World) (h : HeapSt w0 ws P (n + 1) f w) : Calls Try.prog 80 #[.pointer (some ⟨P, 0, none⟩)] w (PopPost w0 ws P n f) := by
  obtain ⟨g, cap, hP, ho⟩ := heap_row h
  obtain ⟨hc1, hc2⟩ := own_cap' ho
  have hfew := h.few
  obtain ⟨b, o, e0, q0, q1⟩ := cu_cells (own_row_cu ho) (k := n) (by rw [seqF_len]; omega)
  cases e0
  rw [seqF_get] at q0 q1
  simp only [Nat.zero_add] at q0 q1
  have p0 : w.cell? ⟨P, 0, none⟩ = some (.slice (some ⟨g, 0, none⟩) (n + 1) cap) := by rw [hP.cell 0]; rfl
  have pf := hP.frozen 0
  have hPl := hP.lt
  have hPn : ¬ P = w.heap.size := by omega
  have hgl : g < w.heap.size := (ho.lt g rfl).2
  have hgn : ¬ g = w.heap.size := by omega
  have hl : ((n : Int) + 1) - 1 = (n : Int) := by omega
  have hcap : (n : Int) ≤ (cap : Int) := by omega
  have hn0 : (0 : Int) ≤ (n : Int) := by omega
  have mi : ∀ w, Sem.run Try.prog (Instr.makeInterface 63 (.agg #[.slice (f n).A (f n).n (f n).c, .int .i64 (f n).id])) w = .ok (ifcU (f n)) w := fun _ => by kernel_rfl
  have HP := Lib.hid hP
  have HO := Lib.hid ho
  have HH := Lib.hid h
  clear hP ho h
  go_enter Try.func80, Try.ntmps80
  go_wp2
  go_ret
  have hP := HP.out
  have ho := HO.out
  have h := HH.out
  have hs := ho
  rw [seqF_succ, cellsU_app] at hs
  have hs := own_shrink hs (by rw [cellsU_length, seqF_len])
  refine ⟨rfl, HeapSt.more (w := w.setCell ⟨P, 0, none⟩ (.slice (some ⟨g, 0, none⟩) n cap)) ⟨h.bel.setCell h.far _, ⟨_, hP.set_ 0 _, own_far hs (hs.not_blk hP (by decide))⟩, fun k hk => h.ok k (by omega), h.far, by omega, h.keep.trans (KO.cell hP _)⟩ (bpush (Below.refl _ _) _)⟩
end Go.Proofs.Ytbccjkjibffbkaa
namespace Go.Proofs.Ytbccjkjibffbkaa
open Go.RowKit Go.Shelf
set_option linter.unusedSimpArgs false
set_option linter.unusedVariables false
theorem n_len (a : Addr) (w : World) : Sem.run Try.prog (nilAhead 212 58 (.pointer (some a)) "Len") w = .ok (some false) w := by kernel_rfl
theorem n_less (a : Addr) (w : World) : Sem.run Try.prog (nilAhead 212 58 (.pointer (some a)) "Less") w = .ok (some false) w := by kernel_rfl
theorem n_swap (a : Addr) (w : World) : Sem.run Try.prog (nilAhead 212 58 (.pointer (some a)) "Swap") w = .ok (some false) w := by kernel_rfl
theorem n_push (a : Addr) (w : World) : Sem.run Try.prog (nilAhead 212 58 (.pointer (some a)) "Push") w = .ok (some false) w := by kernel_rfl
theorem n_pop (a : Addr) (w : World) : Sem.run Try.prog (nilAhead 212 58 (.pointer (some a)) "Pop") w = .ok (some false) w := by kernel_rfl
theorem m_push (a : Addr) (w : World) : Sem.run Try.prog (method 212 58 (.pointer (some a)) "Push") w = .ok (81, .pointer (some a)) w := by kernel_rfl
theorem m_pop (a : Addr) (w : World) : Sem.run Try.prog (method 212 58 (.pointer (some a)) "Pop") w = .ok (80, .pointer (some a)) w := by kernel_rfl
theorem m_less (P : Nat) (v : Value) (w : World) (h : w.cell? ⟨P, 0, none⟩ = some v) : Sem.run Try.prog (method 212 58 (.pointer (some ⟨P, 0, none⟩)) "Less") w = .ok (79, v) w := by
  have e : Sem.run Try.prog (method 212 58 (.pointer (some ⟨P, 0, none⟩)) "Less") w = Sem.run Try.prog (do pure (79, ← loadVar 60 ⟨P, 0, none⟩)) w := by kernel_rfl
  rw [e]
  go_simp
theorem m_swap (P : Nat) (v : Value) (w : World) (h : w.cell? ⟨P, 0, none⟩ = some v) : Sem.run Try.prog (method 212 58 (.pointer (some ⟨P, 0, none⟩)) "Swap") w = .ok (82, v) w := by
  have e : Sem.run Try.prog (method 212 58 (.pointer (some ⟨P, 0, none⟩)) "Swap") w = Sem.run Try.prog (do pure (82, ← loadVar 60 ⟨P, 0, none⟩)) w := by kernel_rfl
  rw [e]
  go_simp
theorem m_len (P : Nat) (v : Value) (w : World) (h : w.cell? ⟨P, 0, none⟩ = some v) : Sem.run Try.prog (method 212 58 (.pointer (some ⟨P, 0, none⟩)) "Len") w = .ok (34, v) w := by
  have e : Sem.run Try.prog (method 212 58 (.pointer (some ⟨P, 0, none⟩)) "Len") w = Sem.run Try.prog (do pure (34, ← loadVar 60 ⟨P, 0, none⟩)) w := by kernel_rfl
  rw [e]
  go_simp
theorem cmpI_le (a b : Int) : cmpI a b ≤ 0 ↔ a ≤ b := by
  have h1 := cmpI_neg a b
  have h2 := @cmpI_lt b a
  omega
theorem cmpU_neg (x y : Cu) : cmpU y x = - cmpU x y := by
  unfold cmpU orI
  rw [cmpV_neg x.hd.2 y.hd.2, cmpI_neg (x.id : Int) y.id]
  by_cases h : cmpV x.hd.2 y.hd.2 = 0
  · rw [if_pos (by omega), if_pos h]
  · rw [if_neg (by omega), if_neg h]
theorem cmpV_key {a b : RV} (h : cmpV a b = 0) (c : RV) : cmpV a c = cmpV b c ∧ cmpV c a = cmpV c b := by
  obtain ⟨h1, h2⟩ := cmpV_zero.1 h
  unfold cmpV
  rw [h1, h2]
  exact ⟨rfl, rfl⟩
theorem cmpU_le {a b c : Cu} (h1 : cmpU a b ≤ 0) (h2 : cmpU b c ≤ 0) : cmpU a c ≤ 0 := by
  unfold cmpU orI at *
  by_cases e1 : cmpV a.hd.2 b.hd.2 = 0
  · rw [(cmpV_key e1 _).1]
    rw [if_pos e1, cmpI_le] at h1
    by_cases e2 : cmpV b.hd.2 c.hd.2 = 0
    · rw [if_pos e2, cmpI_le] at h2
      rw [if_pos e2, cmpI_le]
      omega
    · rw [if_neg e2] at h2 ⊢
      exact h2
  · rw [if_neg e1] at h1
    by_cases e2 : cmpV b.hd.2 c.hd.2 = 0
    · rw [← (cmpV_key e2 _).2, if_neg e1]; exact h1
    · rw [if_neg e2] at h2
      have := cmpV_tr (show cmpV a.hd.2 b.hd.2 < 0 by omega) (show cmpV b.hd.2 c.hd.2 < 0 by omega)
      rw [if_neg (by omega)]
      omega
theorem ltU_ord : OrdL ltU := by
  refine ⟨fun a b h => ?_, fun a b c h1 h2 => ?_⟩
  · have := cmpU_neg a b
    simp [ltU] at h ⊢
    omega
  · have n1 := cmpU_neg a b
    have n2 := cmpU_neg b c
    have n3 := cmpU_neg a c
    simp [ltU] at h1 h2 ⊢
    have := cmpU_le (a := a) (b := b) (c := c) (by omega) (by omega)
    omega

theorem heap_row' {w0 ws w : World} {P n : Nat} {f : Nat → Cu} (h : HeapSt w0 ws P n f w) (hn : 0 < n) : ∃ g cap, Blk w P 60 #[.slice (some ⟨g, 0, none⟩) n cap] ∧ w.ownsRow w0.heap.size 63 2 (.slice (some ⟨g, 0, none⟩) n cap) n (cellsU (seqF f n)) := by
  obtain ⟨m, rfl⟩ : ∃ m, n = m + 1 := ⟨n - 1, by omega⟩
  exact heap_row h
theorem less_h {w0 ws w : World} {P n g cap i j : Nat} {f : Nat → Cu} (h : HeapSt w0 ws P n f w) (ho : w.ownsRow w0.heap.size 63 2 (.slice (some ⟨g, 0, none⟩) n cap) n (cellsU (seqF f n))) (hi : i < n) (hj : j < n) :
    Calls Try.prog 79 #[.slice (some ⟨g, 0, none⟩) n cap, .int .i64 i, .int .i64 j] w fun e w' => e = .returned (.bool (ltU (f i) (f j))) ∧ Below w.heap.size w w' := by
  have hl := seqF_len f n
  have hf := h.few
  have hx := (h.ok i hi).keep h.bel
  have hy := (h.ok j hj).keep h.bel
  have := less_u (some ⟨g, 0, none⟩) n cap i j (seqF f n) w (own_row_cu ho) hl.symm (by omega) (by omega) (by omega) (by rw [seqF_get]; exact hx) (by rw [seqF_get]; exact hy)
  rw [seqF_get, seqF_get] at this
  exact this
theorem swap_h {w0 ws w : World} {P n g cap i j : Nat} {f : Nat → Cu} (h : HeapSt w0 ws P n f w) (hP : Blk w P 60 #[.slice (some ⟨g, 0, none⟩) n cap]) (ho : w.ownsRow w0.heap.size 63 2 (.slice (some ⟨g, 0, none⟩) n cap) n (cellsU (seqF f n))) (hi : i < n) (hj : j < n) :
    Calls Try.prog 82 #[.slice (some ⟨g, 0, none⟩) n cap, .int .i64 i, .int .i64 j] w fun e w' => e = .returned (.tuple #[]) ∧ HeapSt w0 ws P n (swapF f i j) w' := by
  have hf := h.few
  refine (swap_u w0.heap.size g cap n i j f w ho hi hj (by omega)).mono ?_
  rintro e w' ⟨rfl, h1, h2⟩
  refine ⟨rfl, h.bel.trans (grown_below4 ho h2 h.bel.size), ⟨_, hP.grown h2 ?_, h1⟩, fun k hk => ?_, h.far, h.few, h.keep.trans (KO.row ho h2)⟩
  · exact ho.not_blk hP (by decide)
  · unfold swapF
    split
    · exact h.ok j hj
    · split
      · exact h.ok i hi
      · exact h.ok k hk
theorem swap_perm {f : Nat → Cu} {n i j : Nat} (hi : i < n) (hj : j < n) : (seqF (swapF f i j) n).Perm (seqF f n) := by
  rw [← seq_swap hi hj]
  have h1 : i < (seqF f n).length := by rw [seqF_len]; exact hi
  have h2 : j < (seqF f n).length := by rw [seqF_len]; exact hj
  have := List.set_set_perm h1 h2
  rw [seqF_get, seqF_get] at this
  exact this
end Go.Proofs.Ytbccjkjibffbkaa
