/- The filter as a tree: what it is in memory, its kids' cells; how deep it is. -/
import Derived.Test.YtgaallkdfcckpaaNS
import Derived.Test.YtgaallkdfcckpaaNB
import Derived.Deep.DeepCutAuto
import Derived.Maps.RangeWalk
import Derived.Maps.OwnSet
import Derived.Laws.EntriesVeiled
namespace Go.Proofs.Ytgaallkdfcckpaa
open Go.RowKit Go.Maps Go.Lib
set_option linter.unusedSimpArgs false
set_option linter.unusedVariables false
section
variable {w w' : World} {g : Nat} {t : TypeId} {cs : Array Value}
def Blk (w : World) (g : Nat) (t : TypeId) (cs : Array Value) : Prop := w.heap[g]? = some (.cells cs t (0, 0))
theorem lt_of_heap {o : Obj} (h : w.heap[g]? = some o) : g < w.heap.size := (Array.getElem?_eq_some_iff.1 h).1
theorem Blk.lt (h : Blk w g t cs) : g < w.heap.size := lt_of_heap h
theorem Blk.cell (h : Blk w g t cs) (i : Nat) : w.cell? ⟨g, i, none⟩ = cs[i]? := cell_of_row w g i cs t (0, 0) h
theorem Blk.frozen (h : Blk w g t cs) (i : Nat) : w.frozen? ⟨g, i, none⟩ = false := by
  unfold Blk at h
  simp [World.frozen?, h]
theorem Blk.new (w : World) (t : TypeId) (cs : Array Value) : Blk (w.alloc (.cells cs t)) w.heap.size t cs := heap_alloc_new w _
end
inductive FT where
  | mk (op : Int) (dim val : ByteArray) (A : Option Addr) (n c : Nat) (ks : List FT)
def FT.op : FT → Int | .mk o _ _ _ _ _ _ => o
def FT.dim : FT → ByteArray | .mk _ d _ _ _ _ _ => d
def FT.val : FT → ByteArray | .mk _ _ v _ _ _ _ => v
def FT.A : FT → Option Addr | .mk _ _ _ A _ _ _ => A
def FT.n : FT → Nat | .mk _ _ _ _ n _ _ => n
def FT.c : FT → Nat | .mk _ _ _ _ _ c _ => c
def FT.ks : FT → List FT | .mk _ _ _ _ _ _ k => k
/-- A function of a filter that goes by its kids'. -/
def FT.fold {β : Type} (g : FT → List β → β) : FT → β
  | .mk o d v A n c ks => g (.mk o d v A n c ks) (ks.map (FT.fold g))
theorem FT.fold_eq {β : Type} (g : FT → List β → β) (f : FT) : FT.fold g f = g f (f.ks.map (FT.fold g)) := by
  cases f; rw [FT.fold]; rfl
theorem FT.ind {P : FT → Prop} (h : ∀ f : FT, (∀ k ∈ f.ks, P k) → P f) : ∀ f, P f
  | .mk o d v A n c ks => h _ (show ∀ k ∈ ks, P k from fun k hk => FT.ind h k)
def FT.enc (f : FT) : List Value := [.int .i64 f.op, .string f.dim, .string f.val, .slice f.A f.n f.c]
def cellsK (L : List FT) : List Value := L.flatMap FT.enc
theorem cellsK_cons (x : FT) (L : List FT) : cellsK (x :: L) = x.enc ++ cellsK L := by simp [cellsK]
theorem cellsK_length : ∀ L : List FT, (cellsK L).length = L.length * 4 := by
  intro L
  induction L with
  | nil => rfl
  | cons z L ih => rw [cellsK_cons, List.length_append, ih, List.length_cons]; simp [FT.enc]; omega
theorem cellsK_get : ∀ (L : List FT) (k : Nat) (h : k < L.length) (j : Nat) (u : Value), (L[k].enc)[j]? = some u → (cellsK L)[k * 4 + j]? = some u := by
  intro L
  induction L with
  | nil => intro k h; simp at h
  | cons z L ih =>
    intro k h j u hu
    have hj : j < 4 := by
      rcases Nat.lt_or_ge j 4 with h | h
      · exact h
      · rw [List.getElem?_eq_none (by simpa [FT.enc] using h)] at hu; cases hu
    rw [cellsK_cons]
    cases k with
    | zero => rw [List.getElem?_append_left (by simp [FT.enc]; omega)]; simpa using hu
    | succ k =>
      rw [List.getElem?_append_right (by simp [FT.enc]; omega)]
      have e : (k + 1) * 4 + j - (z.enc).length = k * 4 + j := by simp [FT.enc]; omega
      rw [e]
      exact ih k (by simpa using h) j u (by simpa using hu)
/-- The cells of one kid. -/
theorem kid_cells {w : World} {A : Option Addr} {L : List FT} (h : Row w A (cellsK L)) {k : Nat} (hk : k < L.length) :
    ∃ b off, A = some ⟨b, off, none⟩ ∧ w.cell? ⟨b, off + k * 4, none⟩ = some (.int .i64 L[k].op) ∧ w.cell? ⟨b, off + k * 4 + 1, none⟩ = some (.string L[k].dim) ∧ w.cell? ⟨b, off + k * 4 + 2, none⟩ = some (.string L[k].val) ∧ w.cell? ⟨b, off + k * 4 + 3, none⟩ = some (.slice L[k].A L[k].n L[k].c) := by
  have g := fun j u hu => cellsK_get L k hk j u hu
  rcases h with h | ⟨b, off, rfl, hc⟩
  · have := cellsK_length L
    rw [h] at this; simp at this; omega
  · exact ⟨b, off, rfl, hc _ _ (g 0 _ rfl), hc _ _ (g 1 _ rfl), hc _ _ (g 2 _ rfl), hc _ _ (g 3 _ rfl)⟩
/-- What holds of one filter, its kids aside. -/
structure FTop (w : World) (f : FT) : Prop where
  row : Row w f.A (cellsK f.ks)
  len : f.n = f.ks.length
  cap : f.n ≤ f.c
  max : f.n ≤ 9223372036854775807
  dim : f.dim.size ≤ 140737488355328
  val : f.val.size ≤ 140737488355328
def FIn (w : World) : FT → Prop
  | .mk o d v A n c ks => FTop w (.mk o d v A n c ks) ∧ ∀ k ∈ ks, FIn w k
theorem FIn.top {w : World} {f : FT} (h : FIn w f) : FTop w f := by cases f; rw [FIn] at h; exact h.1
theorem FIn.kid {w : World} {f : FT} (h : FIn w f) : ∀ k ∈ f.ks, FIn w k := by cases f; rw [FIn] at h; exact h.2
theorem FIn.of {w : World} {f : FT} (h : FTop w f) (hk : ∀ k ∈ f.ks, FIn w k) : FIn w f := by cases f; rw [FIn]; exact ⟨h, hk⟩
theorem FTop.keep {w w' : World} {B : Nat} {f : FT} (h : FTop w f) (hB : w.heap.size ≤ B) (hb : Below B w w') : FTop w' f := { h with row := h.row.keep hB hb }
theorem FIn.keep {w w' : World} {B : Nat} : ∀ f : FT, FIn w f → w.heap.size ≤ B → Below B w w' → FIn w' f := by
  intro f
  induction f using FT.ind with
  | h f ih => intro h hB hb; exact FIn.of (h.top.keep hB hb) fun k hk => ih k hk (h.kid k hk) hB hb
/-- How deep a filter is, the deepest of some, and how many parts it has. -/
def maxL (l : List Nat) : Nat := l.foldl max 0
def FT.depth : FT → Nat := FT.fold fun _ l => maxL l + 1
theorem FT.depth_eq (f : FT) : f.depth = maxL (f.ks.map FT.depth) + 1 := FT.fold_eq _ f
theorem maxL_snoc (l : List Nat) (x : Nat) : maxL (l ++ [x]) = max (maxL l) x := by simp [maxL]
theorem foldl_max (l : List Nat) (a : Nat) : l.foldl max a = max a (maxL l) := by
  induction l generalizing a with
  | nil => simp [maxL]
  | cons x l ih => rw [maxL, List.foldl_cons, List.foldl_cons, ih, ih (max 0 x)]; omega
theorem maxL_take (l : List Nat) (k : Nat) : maxL (l.take k) ≤ maxL l := by
  conv => rhs; rw [← List.take_append_drop k l]
  show _ ≤ (l.take k ++ l.drop k).foldl max 0
  rw [List.foldl_append, foldl_max]
  exact Nat.le_max_left _ _
theorem le_maxL {l : List Nat} {x : Nat} (h : x ∈ l) : x ≤ maxL l := by
  induction l with
  | nil => cases h
  | cons y l ih =>
    show x ≤ (l.foldl max (max 0 y))
    rw [foldl_max]
    rcases List.mem_cons.1 h with rfl | h
    · omega
    · have := ih h; omega
set_option maxRecDepth 100000 in
set_option maxHeartbeats 8000000 in
theorem depth_any : ∀ (f : FT) (w : World), FIn w f → f.depth ≤ 1000000 → Calls Try.prog 47 #[.agg #[.int .i64 f.op, .string f.dim, .string f.val, .slice f.A f.n f.c]] w fun e w' => e = .returned (.int .i64 f.depth) ∧ Below w.heap.size w w' := by
  intro f
  induction f using FT.ind with
  | h f ih =>
  intro w hf hd
  obtain ⟨w1, hw1⟩ : ∃ w1, w1 = w.alloc (.cells #[.int .i64 f.op, .string f.dim, .string f.val, .slice f.A f.n f.c] 39) := ⟨_, rfl⟩
  have HB1 := Lib.hid (show Below w.heap.size w w1 by rw [hw1]; exact bpush (Below.refl _ _) _)
  have HK := Lib.hid (show Blk w1 w.heap.size 39 #[.int .i64 f.op, .string f.dim, .string f.val, .slice f.A f.n f.c] by rw [hw1]; exact Blk.new _ _ _)
  have HW1 := Lib.hid hw1
  have HF := Lib.hid hf
  obtain ⟨D, hD⟩ : ∃ D, D = f.ks.map FT.depth := ⟨_, rfl⟩
  have hde : f.depth = maxL D + 1 := by rw [hD]; exact f.depth_eq
  rw [hde] at hd ⊢
  have HD := Lib.hid hD
  have HIH := Lib.hid ih
  obtain ⟨A, hA⟩ : ∃ A, A = f.A := ⟨_, rfl⟩
  obtain ⟨n, hn⟩ : ∃ n, n = f.n := ⟨_, rfl⟩
  obtain ⟨c, hc⟩ : ∃ c, c = f.c := ⟨_, rfl⟩
  have HA := Lib.hid (show Row w A (cellsK f.ks) by rw [hA]; exact hf.top.row)
  have HN := Lib.hid (show n = f.ks.length by rw [hn]; exact hf.top.len)
  have hn2 : n ≤ 9223372036854775807 := by rw [hn]; exact hf.top.max
  have hnc : n ≤ c := by rw [hn, hc]; exact hf.top.cap
  obtain ⟨g, hg⟩ : ∃ g, g = w.heap.size := ⟨_, rfl⟩
  have HG := Lib.hid hg
  have HC3 := Lib.hid (fun W (hb : Below w1.heap.size w1 W) => show W.cell? ⟨g, 3, none⟩ = some (.slice A n c) from by
    have h3 := HK.out.cell 3
    have hl := HK.out.lt
    rw [← hg] at h3 hl
    rw [hb.cell (p := ⟨g, 3, none⟩) hl, h3, hA, hn, hc]; rfl)
  clear hw1 hf hde hD ih hA hn hc hg
  go_enter Try.func47, Try.ntmps47
  go_upto_region 3 with fail
  rw [← HW1.out, ← HG.out]
  go_loopw [3, 4] (fun v3 v4 wr => ∃ k : Nat, k ≤ n ∧ v4 = .int .i64 k ∧ v3 = .int .i64 (maxL (D.take k) : Nat) ∧ Hid (Below w1.heap.size w1 wr)) (fun _ i _ => n - (intOf i).toNat)
  case atStart => exact ⟨0, by omega, rfl, rfl, Lib.hid (Below.refl _ _)⟩
  case round =>
    obtain ⟨k, hk, rfl, rfl, HB⟩ := hrel
    have c3 := HC3.out wr HB.out
    by_cases hlt : k < n
    · have hkz : k < f.ks.length := by have := HN.out; omega
      obtain ⟨b, off, rfl, q0, q1, q2, q3⟩ := kid_cells (HA.out.keep (Nat.le_refl _) (bthen HB1.out HB.out)) hkz
      obtain ⟨x, hx⟩ : ∃ x, x = f.ks[k] := ⟨_, rfl⟩
      have hxm : x ∈ f.ks := by rw [hx]; exact List.getElem_mem _
      have hxd : x.depth ≤ maxL D := by rw [HD.out]; exact le_maxL (List.mem_map.2 ⟨x, hxm, rfl⟩)
      have HX := Lib.hid (HIH.out x hxm wr (FIn.keep x (HF.out.kid x hxm) (Nat.le_refl _) (bthen HB1.out HB.out)) (by omega))
      have HS := Lib.hid (show maxL (D.take (k + 1)) = max (maxL (D.take k)) x.depth by
        rw [take_snoc _ _ (by rw [HD.out]; simpa using hkz), maxL_snoc]
        congr 1
        simp only [HD.out, List.getElem_map, hx])
      have ht := maxL_take D k
      rw [← hx] at q0 q1 q2 q3
      obtain ⟨s, hs⟩ : ∃ s, s = maxL (D.take k) := ⟨_, rfl⟩
      rw [← hs] at HS ht ⊢
      obtain ⟨y, hy⟩ : ∃ y, y = x.depth := ⟨_, rfl⟩
      rw [← hy] at HS HX hxd
      obtain ⟨m, hm⟩ : ∃ m, m = maxL D := ⟨_, rfl⟩
      rw [← hm] at ht hxd hd
      have hkz0 : (0 : Int) ≤ (k : Int) := by omega
      have hkz1 : (k : Int) < (n : Int) := by omega
      have hmx : max (s : Int) (y : Int) = ((max s y : Nat) : Int) := by omega
      clear hx hxm hs hy hm hlt
      go_wp2_with (go_at_call 47; refine HX.out.mono ?_; rintro e w2 ⟨rfl, hb⟩; have HB2 := Lib.hid hb; clear hb)
      go_roundw
      case rel => exact ⟨k + 1, by omega, by go_num, by rw [HS.out]; congr 1; split <;> omega, Lib.hid (bthen HB.out HB2.out)⟩
      case measure => simp [intOf]; omega
    · obtain rfl : k = n := by omega
      have hkz1 : ¬ (k : Int) < (k : Int) := by omega
      have HE := Lib.hid (show D.take k = D from List.take_of_length_le (by rw [HD.out]; simpa using Nat.le_of_eq HN.out.symm))
      rw [HE.out]
      clear HE
      obtain ⟨m, hm⟩ : ∃ m, m = maxL D := ⟨_, rfl⟩
      rw [← hm] at hd ⊢
      have HM := Lib.hid hm
      clear hm hlt
      go_wp2_with fail
      go_ret
      exact ⟨by rw [← HM.out]; rfl, bthen HB1.out HB.out⟩
end Go.Proofs.Ytgaallkdfcckpaa
