/- What the walks of this seat say of a slice of cells, and plain facts. Lists of texts: Fits. Where a text stands in a list. The reserved words. Name. Contains; whether no two texts are alike. Value. names. names: all of them names, no two alike. Two lists of texts, put behind one another. Right. Whether any text is no value; whether any number is too great. Check. Subset. The document's Name and Value. append of a list of texts, nil or not; the document's Right. The document's Right. The document's Check and Subset. -/
import Derived.Test.YtgaallkdfcckpaaRows
import Derived.WalkKit
import Derived.ProofKit
import Derived.OpenShut
import Derived.Below
import Derived.Lib.Hide
import Derived.WalkLawsBesides
import Derived.Laws.OwnMore
import Derived.Laws.RangeString
import Derived.Laws.RangeAny
import Derived.Lib.AppendZeros
import Derived.Maps.AppendAt
import Derived.Laws.AppendOwnNone
import Derived.Deep.RegionHeld3
import Derived.Deep.AppendLies
import Derived.Deep.QuietTactic
import Derived.BigQuiet
namespace Go.Proofs.Ytgaallkdfcckpaa
open Go.RowKit

theorem bcell {W w1 : World} {B : Nat} (hb : Below B W w1) : (∀ b o, b < B → w1.cell? ⟨b, o, none⟩ = W.cell? ⟨b, o, none⟩) ∧ (∀ b o, b < B → w1.frozen? ⟨b, o, none⟩ = W.frozen? ⟨b, o, none⟩) :=
  ⟨fun b o h => hb.cell (p := ⟨b, o, none⟩) h, fun b o h => hb.frozen (p := ⟨b, o, none⟩) h⟩

theorem bpush {w w1 : World} (h : Below w.heap.size w w1) (o : Obj) : Below w.heap.size w (w1.alloc o) := h.alloc h.size o
theorem bthen {w w1 w2 : World} (h : Below w.heap.size w w1) (k : Below w1.heap.size w1 w2) : Below w.heap.size w w2 := h.trans (k.mono h.size)
theorem bset {w w1 : World} (h : Below w.heap.size w w1) {b o : Nat} (hb : w.heap.size ≤ b) (v : Value) : Below w.heap.size w (w1.setCell ⟨b, o, none⟩ v) := h.setCell (p := ⟨b, o, none⟩) hb v

theorem lt_of_cell {w : World} {b o : Nat} {v : Value} (h : w.cell? ⟨b, o, none⟩ = some v) : b < w.heap.size := by
  rcases Nat.lt_or_ge b w.heap.size with h1 | h1
  · exact h1
  · simp [World.cell?, Array.getElem?_eq_none h1] at h

/-- The slice's cells: none, or a row from an address on. -/
def Row (w : World) (A : Option Addr) (xs : List Value) : Prop :=
  xs = [] ∨ ∃ b off, A = some ⟨b, off, none⟩ ∧ ∀ j u, xs[j]? = some u → w.cell? ⟨b, off + j, none⟩ = some u

theorem Row.keep {w w' : World} {B : Nat} {A : Option Addr} {xs : List Value} (h : Row w A xs) (hB : w.heap.size ≤ B) (hb : Below B w w') : Row w' A xs := by
  rcases h with h | ⟨b, off, rfl, hc⟩
  · exact .inl h
  · exact .inr ⟨b, off, rfl, fun j u hu => ((bcell hb).1 _ _ (Nat.lt_of_lt_of_le (lt_of_cell (hc j u hu)) hB)).trans (hc j u hu)⟩

/-- A row that a call has just made. -/
theorem Row.made {w : World} {t : TypeId} {xs : List Value} {cs : Array Value} {b : Nat} (hb : b = w.heap.size) (hx : cs = xs.toArray) : Row (w.alloc (.cells cs t)) (some ⟨b, 0, none⟩) xs := by
  subst hb hx; exact .inr ⟨_, _, rfl, fun j u hu => by simp [hu]⟩

theorem ret_bool {a b : Bool} (h : a = b) : Ending.returned (.bool a) = .returned (.bool b) := by rw [h]
theorem row_opened {W : World} {x : Addr} {k : IntKind} {len cap : Nat} {zs : List Int} (hl : len ≤ cap) (hm : cap ≤ maxLen) (hz : zs.length = cap)
    (hcell : ∀ i, i < zs.length → W.cell? (x.add i) = some (.int k (zs.getD i 0))) (hwz : ∀ n ∈ zs, (Lit.int k n).wf = true) :
    ∃ ys : List Int, Row W (some x) (ys.map (Value.int k)) ∧ len ≤ cap ∧ cap ≤ maxLen ∧ ys.length = len ∧ ∀ n ∈ ys, (Lit.int k n).wf = true := by
  refine ⟨zs.take len, ?_, hl, hm, by rw [List.length_take]; omega, fun n hn => hwz n (List.mem_of_mem_take hn)⟩
  rcases Nat.eq_zero_or_pos len with h0 | h0
  · subst h0; exact .inl rfl
  · obtain ⟨b, off, spot⟩ := x
    have h1 := hcell 0 (by omega)
    have hs : spot = none := by simpa [Addr.add] using World.cell?_spot h1
    subst hs
    refine .inr ⟨b, off, rfl, fun j u hu => ?_⟩
    have hj : j < len ∧ j < zs.length := by
      rcases Nat.lt_or_ge j len with h | h
      · exact ⟨h, by omega⟩
      · rw [List.getElem?_eq_none (by rw [List.length_map, List.length_take]; omega)] at hu; cases hu
    have h2 := hcell j hj.2
    have hu' : u = .int k (zs.getD j 0) := by
      rw [List.getElem?_map, List.getElem?_take_of_lt hj.1, List.getElem?_eq_getElem hj.2] at hu
      rw [List.getD_eq_getElem?_getD, List.getElem?_eq_getElem hj.2]
      simpa using hu.symm
    rw [hu', ← h2]
    congr 1
    unfold Addr.add
    split
    · rename_i h; subst h; rfl
    · rfl
theorem wf_bd {n : Int} (h : (Lit.int .i64 n).wf = true) : -9223372036854775808 ≤ n ∧ n ≤ 9223372036854775807 := by
  have := bounds_i64 h
  exact this
theorem below_drewN {B : Nat} {a w : World} (h : Below B a w) (n : Nat) : Below B a (w.drewN n) := ⟨h.os, h.tape, h.output, h.size, h.block⟩
theorem cell_on {W w1 : World} {b o : Nat} {v : Value} (hb : Below W.heap.size W w1) (h : W.cell? ⟨b, o, none⟩ = some v) : w1.cell? ⟨b, o, none⟩ = some v :=
  (hb.cell (p := ⟨b, o, none⟩) (lt_of_cell h)).trans h
theorem ret_int {k : IntKind} {a b : Int} (h : a = b) : Ending.returned (.int k a) = .returned (.int k b) := by rw [h]
theorem take_snoc {α : Type} (l : List α) (k : Nat) (h : k < l.length) : l.take (k + 1) = l.take k ++ [l[k]] := by
  rw [List.take_succ_eq_append_getElem h]
theorem Row.of_own {w : World} {base : Nat} {e : TypeId} {v : Value} {n : Nat} {xs : List Value} (h : w.ownsRow base e 1 v n xs) (hn : 0 < n) :
    ∃ g cap, v = .slice (some ⟨g, 0, none⟩) n cap ∧ n ≤ cap ∧ Row w (some ⟨g, 0, none⟩) xs := by
  rcases h.2 with ⟨_, h0⟩ | ⟨g, cap, cur, rfl, h1, h2, h3, h4, h5, h6⟩
  · omega
  · refine ⟨g, cap, rfl, h3, .inr ⟨g, 0, rfl, fun j u hu => ?_⟩⟩
    have := h.cells (g := g) rfl j u hu
    unfold Addr.add at this
    split at this
    · rename_i hj; subst hj; simpa using this
    · simpa using this
theorem Row.cell {w : World} {k : IntKind} {A : Option Addr} {zs : List Int} {i : Nat} (hA : Row w A (zs.map (Value.int k))) (hi : i < zs.length) :
    ∃ b off, A = some ⟨b, off, none⟩ ∧ w.cell? ⟨b, off + i, none⟩ = some (.int k zs[i]) := by
  rcases hA with hA | ⟨b, off, rfl, hc⟩
  · simp at hA; subst hA; simp at hi
  · exact ⟨b, off, rfl, hc i _ (by simp [hi])⟩
theorem Row.head {w : World} {k : IntKind} {A : Option Addr} {zs : List Int} (hA : Row w A (zs.map (Value.int k))) (h : 0 < zs.length) : ∃ b off, A = some ⟨b, off, none⟩ := by
  obtain ⟨b, off, e, _⟩ := hA.cell h; exact ⟨b, off, e⟩
theorem Row.part {w : World} {k : IntKind} {b off : Nat} {zs : List Int} (h : Row w (some ⟨b, off, none⟩) (zs.map (Value.int k))) (t : Nat) :
    Row w (some ⟨b, off, none⟩) ((zs.take t).map (Value.int k)) ∧ Row w (some ⟨b, off + t, none⟩) ((zs.drop t).map (Value.int k)) := by
  rcases h with h | ⟨b', off', he, hc⟩
  · simp at h; subst h; exact ⟨.inl (by simp), .inl (by simp)⟩
  · cases he
    refine ⟨.inr ⟨b, off, rfl, fun j u hu => ?_⟩, .inr ⟨b, off + t, rfl, fun j u hu => ?_⟩⟩
    · rcases Nat.lt_or_ge j t with h | h
      · exact hc j u (by rw [List.getElem?_map, List.getElem?_take_of_lt h] at hu; rw [List.getElem?_map]; exact hu)
      · rw [List.getElem?_eq_none (by rw [List.length_map, List.length_take]; omega)] at hu; cases hu
    · rw [Nat.add_assoc]
      exact hc (t + j) u (by rw [List.getElem?_map, List.getElem?_drop] at hu; rw [List.getElem?_map]; exact hu)
end Go.Proofs.Ytgaallkdfcckpaa
namespace Go.Proofs.Ytgaallkdfcckpaa
open Go.RowKit
set_option linter.unusedSimpArgs false
set_option linter.unusedVariables false
def texts (l : List ByteArray) : List Value := l.map Value.string
theorem text_cell {w : World} {A : Option Addr} {l : List ByteArray} {i : Nat} (hA : Row w A (texts l)) (hi : i < l.length) :
    ∃ b off, A = some ⟨b, off, none⟩ ∧ w.cell? ⟨b, off + i, none⟩ = some (.string l[i]) := by
  rcases hA with hA | ⟨b, off, rfl, hc⟩
  · have := congrArg List.length hA; simp [texts] at this; rw [this] at hi; simp at hi
  · exact ⟨b, off, rfl, hc i _ (by simp [texts, hi])⟩
def fitsP (l : List ByteArray) : Prop := l.length ≤ 20 ∧ ∀ s ∈ l, s.size ≤ 80
set_option maxRecDepth 100000 in
set_option maxHeartbeats 4000000 in
theorem fits_any (A : Option Addr) (n c : Nat) (L : List ByteArray) (w : World) (hA : Row w A (texts L)) (hz : n = L.length) (hn : n ≤ 9223372036854775807) (r : Bool) (hr : r = true ↔ fitsP L) :
    Calls Try.prog 40 #[.slice A n c] w fun e w' => e = .returned (.bool r) ∧ w = w' := by
  have HA := Lib.hid hA
  have HZ := Lib.hid hz
  have HR := Lib.hid hr
  clear hA hz hr
  go_enter Try.func40, Try.ntmps40
  go_wp2_with fail
  go_loopw [3] (fun i wr => ∃ k : Nat, k ≤ n ∧ k ≤ 20 ∧ i = .int .i64 k ∧ Hid (∀ (j : Nat) (h : j < L.length), j < k → L[j].size ≤ 80) ∧ wr = w) (fun i _ => n - (intOf i).toNat)
  case atStart => exact ⟨0, Nat.zero_le _, by omega, rfl, Lib.hid (fun j _ h => by omega), rfl⟩
  case round =>
    obtain ⟨k, hk, hk2, rfl, HK, rfl⟩ := hrel
    by_cases hlt : k < n
    · have hkz : k < L.length := by have := HZ.out; omega
      have hki : (k : Int) < (n : Int) := by omega
      have hk0 : (0 : Int) ≤ (k : Int) := by omega
      by_cases h20 : k = 20
      · have he : ((k : Int) == 20) = true := by rw [beq_iff_eq]; omega
        obtain rfl : r = false := by
          cases r with
          | false => rfl
          | true => have := (HR.out.1 rfl).1; omega
        clear hlt h20
        go_wp2_with fail
        go_ret
        exact ⟨rfl, rfl⟩
      · have he : ((k : Int) == 20) = false := by rw [beq_eq_false_iff_ne]; omega
        obtain ⟨b, off, rfl, c0⟩ := text_cell HA.out hkz
        obtain ⟨s, hs⟩ : ∃ s, s = L[k] := ⟨_, rfl⟩
        rw [← hs] at c0
        obtain ⟨z, hzs⟩ : ∃ z, z = s.size := ⟨_, rfl⟩
        have hzz : s.size = z := hzs.symm
        have HS := Lib.hid hs
        clear hs hzs
        by_cases h80 : 80 < z
        · have hd : decide ((80 : Int) < (z : Int)) = true := by simp; omega
          obtain rfl : r = false := by
            cases r with
            | false => rfl
            | true => have := (HR.out.1 rfl).2 L[k] (List.getElem_mem _); rw [← HS.out] at this; omega
          clear hlt h20 h80
          go_wp2_with fail
          go_ret
          exact ⟨rfl, rfl⟩
        · have hd : decide ((80 : Int) < (z : Int)) = false := by simp; omega
          have HK2 := Lib.hid (show ∀ (j : Nat) (h : j < L.length), j < k + 1 → L[j].size ≤ 80 from fun j h hj => by
            rcases Nat.lt_or_ge j k with e | e
            · exact HK.out j h e
            · obtain rfl : j = k := by omega
              rw [← HS.out]; omega)
          have hk20 : k + 1 ≤ 20 := by omega
          clear hlt h20 h80
          go_wp2_with fail
          go_roundw
          case rel => exact ⟨k + 1, by omega, by omega, by go_num, HK2, by first | rfl | trivial⟩
          case measure => simp [intOf]; omega
    · have hge : ¬ (k : Int) < (n : Int) := by omega
      obtain rfl : r = true := HR.out.2 ⟨by have := HZ.out; omega, fun s hs => by
        obtain ⟨j, hj, rfl⟩ := List.mem_iff_getElem.1 hs
        exact HK.out j hj (by have := HZ.out; omega)⟩
      clear hlt
      go_wp2_with fail
      go_ret
      exact ⟨rfl, rfl⟩
end Go.Proofs.Ytgaallkdfcckpaa
namespace Go.Proofs.Ytgaallkdfcckpaa
open Go.RowKit
set_option linter.unusedSimpArgs false
set_option linter.unusedVariables false
theorem str_ne {a b : ByteArray} (h : a ≠ b) : (a.toList == b.toList) = false := by
  rw [ByteArray.toList_eq, ByteArray.toList_eq, beq_eq_false_iff_ne]
  exact fun e => h (by cases a; cases b; congr 1; exact Array.toList_inj.1 e)
/-- A text's first place in a list. -/
def FirstAt (L : List ByteArray) (s : ByteArray) : Option Nat → Prop
  | none => ∀ (j : Nat) (h : j < L.length), L[j] ≠ s
  | some i => ∃ h : i < L.length, L[i] = s ∧ ∀ (j : Nat) (hj : j < i), L[j] ≠ s
def idxO : Option Nat → Int
  | none => -1
  | some i => i
theorem FirstAt.uniq {L : List ByteArray} {s : ByteArray} {o p : Option Nat} (h : FirstAt L s o) (k : FirstAt L s p) : o = p := by
  cases o with
  | none => cases p with
    | none => rfl
    | some j => obtain ⟨hj, e, _⟩ := k; exact absurd e (h j hj)
  | some i => cases p with
    | none => obtain ⟨hi, e, _⟩ := h; exact absurd e (k i hi)
    | some j =>
      obtain ⟨hi, e1, n1⟩ := h
      obtain ⟨hj, e2, n2⟩ := k
      rcases Nat.lt_trichotomy i j with h3 | rfl | h3
      · exact absurd e1 (n2 i h3)
      · rfl
      · exact absurd e2 (n1 j h3)
end Go.Proofs.Ytgaallkdfcckpaa
namespace Go.Proofs.Ytgaallkdfcckpaa
open Go.RowKit
set_option linter.unusedSimpArgs false
set_option linter.unusedVariables false
theorem str_ne_lit {s : ByteArray} {l : List UInt8} (h : s ≠ ⟨l.toArray⟩) : (s.toList == l) = false := by
  have h1 := str_ne h
  rw [ByteArray.toList_eq ⟨l.toArray⟩] at h1
  exact h1
def wordsL : List ByteArray := [⟨#[99, 111, 117, 110, 116]⟩, ⟨#[115, 117, 109]⟩, ⟨#[109, 105, 110]⟩, ⟨#[109, 97, 120]⟩, ⟨#[102, 114, 111, 109]⟩, ⟨#[116, 111]⟩, ⟨#[98, 121]⟩, ⟨#[101, 118, 101, 114, 121]⟩, ⟨#[119, 104, 101, 114, 101]⟩, ⟨#[104, 97, 118, 105, 110, 103]⟩, ⟨#[111, 114, 100, 101, 114]⟩, ⟨#[108, 105, 109, 105, 116]⟩, ⟨#[97, 110, 100]⟩, ⟨#[111, 114]⟩, ⟨#[110, 111, 116]⟩, ⟨#[105, 115]⟩, ⟨#[110, 117, 108, 108]⟩, ⟨#[97, 115, 99]⟩, ⟨#[100, 101, 115, 99]⟩, ⟨#[115, 101, 108, 101, 99, 116]⟩]
end Go.Proofs.Ytgaallkdfcckpaa
namespace Go.Proofs.Ytgaallkdfcckpaa
open Go.RowKit
set_option linter.unusedSimpArgs false
set_option linter.unusedVariables false
/-- May a byte stand in a name at a place? -/
def okN (i : Nat) (b : Nat) : Prop := (97 ≤ b ∧ b ≤ 122) ∨ (0 < i ∧ ((48 ≤ b ∧ b ≤ 57) ∨ b = 95))
def nameP (s : ByteArray) : Prop := 1 ≤ s.size ∧ s.size ≤ 12 ∧ s ∉ wordsL ∧ ∀ (i : Nat) (h : i < s.size), okN i (s[i]'h).toNat
end Go.Proofs.Ytgaallkdfcckpaa
namespace Go.Proofs.Ytgaallkdfcckpaa
open Go.RowKit
set_option linter.unusedSimpArgs false
set_option linter.unusedVariables false
theorem FirstAt.mem {L : List ByteArray} {s : ByteArray} {o : Option Nat} (h : FirstAt L s o) : o.isSome = true ↔ s ∈ L := by
  cases o with
  | none => exact ⟨fun e => (by cases e), fun hm => by obtain ⟨j, hj, e⟩ := List.mem_iff_getElem.1 hm; exact absurd e (h j hj)⟩
  | some i => obtain ⟨hi, e, _⟩ := h; exact ⟨fun _ => e ▸ List.getElem_mem hi, fun _ => rfl⟩
theorem Row.front {w : World} {A : Option Addr} {L : List ByteArray} (h : Row w A (texts L)) (k : Nat) : Row w A (texts (L.take k)) := by
  rcases h with h | ⟨b, off, rfl, hc⟩
  · left
    have : L = [] := List.map_eq_nil_iff.1 h
    subst this; simp [texts]
  · refine .inr ⟨b, off, rfl, fun j u hu => hc j u ?_⟩
    unfold texts at hu ⊢
    rw [List.map_take] at hu
    rw [List.getElem?_take] at hu
    split at hu
    · exact hu
    · cases hu
/-- No two texts are alike. -/
def apartP (L : List ByteArray) : Prop := ∀ (i j : Nat) (hij : i < j) (h : j < L.length), L[i]'(Nat.lt_trans hij h) ≠ L[j]
end Go.Proofs.Ytgaallkdfcckpaa
namespace Go.Proofs.Ytgaallkdfcckpaa
open Go.RowKit
set_option linter.unusedSimpArgs false
set_option linter.unusedVariables false
/-- May no value have this rune? -/
def wrongV (x : Nat) : Bool := decide (x < 32) || decide (126 < x) || decide (x = 34) || decide (x = 92)
def valueP (s : ByteArray) : Prop := ∀ (i : Nat) (h : i < s.size), wrongV (s[i]'h).toNat = false
end Go.Proofs.Ytgaallkdfcckpaa
namespace Go.Proofs.Ytgaallkdfcckpaa
open Go.RowKit
set_option linter.unusedSimpArgs false
set_option linter.unusedVariables false
end Go.Proofs.Ytgaallkdfcckpaa
namespace Go.Proofs.Ytgaallkdfcckpaa
open Go.RowKit
set_option linter.unusedSimpArgs false
set_option linter.unusedVariables false
def namesP (L : List ByteArray) : Prop := (∀ s ∈ L, nameP s) ∧ apartP L
end Go.Proofs.Ytgaallkdfcckpaa
namespace Go.Proofs.Ytgaallkdfcckpaa
open Go.RowKit
set_option linter.unusedSimpArgs false
set_option linter.unusedVariables false
theorem info_parts {t : TypeId} {z : Value} {a b : Nat} (h : (Try.prog.info? t).map (fun i => (i.zero, i.size, i.bytes)) = some (some z, a, b)) :
    ∃ i0, Try.prog.info? t = some i0 ∧ i0.zero = some z ∧ i0.size = a ∧ i0.bytes = b := by
  cases hi : Try.prog.info? t with
  | none => rw [hi] at h; cases h
  | some i => rw [hi] at h; simp at h; exact ⟨i, rfl, h.1, h.2.1, h.2.2⟩
theorem info9 : (Try.prog.info? 9).map (fun i => (i.zero, i.size, i.bytes)) = some (some (.string ⟨#[]⟩), 1, 16) := by kernel_rfl
theorem own_below {w w' : World} {B : Nat} {e : TypeId} {size : Nat} {v : Value} {n : Nat} {xs : List Value} (h : w.ownsRow B e size v n xs) (hb : Below w.heap.size w w') : w'.ownsRow B e size v n xs :=
  h.kept (row := none) ⟨hb.os, hb.tape, hb.output, hb.size, fun i hi _ => hb.block i hi⟩ (by cases v.ownBlock <;> simp)
theorem own_slice {B : Nat} {w : World} {e : TypeId} {v : Value} {n : Nat} {xs : List Value} (h : w.ownsRow B e 1 v n xs) : ∃ A c, v = .slice A n c ∧ Row w A xs ∧ n ≤ c ∧ (A = none → c = 0) := by
  have hn : n = xs.length := by have := h.1; simpa using this.symm
  rcases h.2 with ⟨rfl, h0⟩ | ⟨g, cap, cur, rfl, _, _, hc, _⟩
  · have hz0 : xs = [] := List.length_eq_zero_iff.1 (by omega)
    exact ⟨none, 0, by rw [h0], .inl hz0, by omega, fun _ => rfl⟩
  · rcases Nat.eq_zero_or_pos n with h0 | h0
    · have hz0 : xs = [] := List.length_eq_zero_iff.1 (by omega)
      exact ⟨_, cap, rfl, .inl hz0, hc, fun h => by cases h⟩
    · obtain ⟨g', cap', he, _, hr⟩ := Row.of_own h h0
      cases he
      exact ⟨_, cap, rfl, hr, hc, fun h => by cases h⟩
def GrowPost (w : World) (e : Ending) (w' : World) : Prop := ∃ v, e = .returned v ∧ w'.ownsRow w.heap.size 9 1 v 0 [] ∧ Below w.heap.size w w'
theorem texts_append (L M : List ByteArray) : texts L ++ texts M = texts (L ++ M) := by simp [texts]
def CatPost (w : World) (L M : List ByteArray) (e : Ending) (w' : World) : Prop := ∃ v, e = .returned v ∧ w'.ownsRow w.heap.size 9 1 v (L.length + M.length) (texts (L ++ M)) ∧ Below w.heap.size w w'
theorem one_texts (L : List ByteArray) : ∀ u ∈ texts L, u.oneCell' = true := by
  intro u hu; unfold texts at hu; obtain ⟨s, _, rfl⟩ := List.mem_map.1 hu; rfl
theorem row_grown {w w' : World} {row : Option Nat} {g off : Nat} {xs : List Value} (hg : w.grownBy w' row) (h : Row w (some ⟨g, off, none⟩) xs) (hne : some g ≠ row) : Row w' (some ⟨g, off, none⟩) xs := by
  rcases h with h | ⟨b, off', he, hc⟩
  · exact .inl h
  · cases he
    exact .inr ⟨_, _, rfl, fun j u hu => hg.cell (hc j u hu) hne⟩
theorem grown_below {w w' : World} {B : Nat} {v : Value} {e : TypeId} {n : Nat} {xs : List Value} (hown : w.ownsRow B e 1 v n xs) (hg : w.grownBy w' v.ownBlock) (h : B ≤ w.heap.size) : Below B w w' :=
  ⟨hg.os, hg.tape, hg.output, hg.size, fun i hi => hg.block i (by omega) (by
    rcases hown.2 with ⟨rfl, _⟩ | ⟨g, cap, cur, rfl, hb, _⟩
    · simp [Value.ownBlock]
    · simp [Value.ownBlock]; omega)⟩
theorem Row.at' {w : World} {ad : Addr} {xs : List Value} (h : Row w (some ad) xs) : ∀ j u, xs[j]? = some u → w.cell? (ad.add j) = some u := by
  intro j u hu
  rcases h with rfl | ⟨b, off, he, hc⟩
  · simp at hu
  · cases he
    have e : (⟨b, off, none⟩ : Addr).add j = ⟨b, off + j, none⟩ := by
      unfold Addr.add; split
      · rename_i h; subst h; rfl
      · rfl
    rw [e]; exact hc j u hu
end Go.Proofs.Ytgaallkdfcckpaa
namespace Go.Proofs.Ytgaallkdfcckpaa
open Go.RowKit
set_option linter.unusedSimpArgs false
set_option linter.unusedVariables false
def rightP (L M : List ByteArray) : Prop := 1 ≤ L.length ∧ L.length ≤ 6 ∧ M.length ≤ 4 ∧ namesP (L ++ M)
end Go.Proofs.Ytgaallkdfcckpaa
namespace Go.Proofs.Ytgaallkdfcckpaa
open Go.RowKit
set_option linter.unusedSimpArgs false
set_option linter.unusedVariables false
def valP (s : ByteArray) : Prop := s.size ≤ 24 ∧ valueP s
def greatZ (x : Int) : Prop := x < -4611686018427387904 ∨ 4611686018427387904 < x
end Go.Proofs.Ytgaallkdfcckpaa
namespace Go.Proofs.Ytgaallkdfcckpaa
open Go.RowKit
set_option linter.unusedSimpArgs false
set_option linter.unusedVariables false
/-- What Check answers. -/
def CheckIs (L M D : List ByteArray) (X : List Int) (t v : Int) : Prop :=
  (D.length ≠ L.length ∧ v = 101) ∨ (D.length = L.length ∧ X.length ≠ M.length ∧ v = 101) ∨
  (D.length = L.length ∧ X.length = M.length ∧ (((∃ s ∈ D, ¬ valP s) ∧ v = 102) ∨ ((∀ s ∈ D, valP s) ∧ (∃ x ∈ X, greatZ x) ∧ v = 102) ∨
    ((∀ s ∈ D, valP s) ∧ (∀ x ∈ X, ¬ greatZ x) ∧ ((t < 0 ∧ v = 181) ∨ (1099511627776 < t ∧ v = 181) ∨ (0 ≤ t ∧ t ≤ 1099511627776 ∧ v = 0)))))
theorem check_ex (L M D : List ByteArray) (X : List Int) (t : Int) : ∃ v, CheckIs L M D X t v := by
  by_cases h1 : D.length = L.length
  · by_cases h2 : X.length = M.length
    · by_cases h3 : ∃ s ∈ D, ¬ valP s
      · exact ⟨102, .inr (.inr ⟨h1, h2, .inl ⟨h3, rfl⟩⟩)⟩
      · have h3' : ∀ s ∈ D, valP s := fun s hs => Classical.byContradiction fun h => h3 ⟨s, hs, h⟩
        by_cases h4 : ∃ x ∈ X, greatZ x
        · exact ⟨102, .inr (.inr ⟨h1, h2, .inr (.inl ⟨h3', h4, rfl⟩)⟩)⟩
        · have h4' : ∀ x ∈ X, ¬ greatZ x := fun x hx h => h4 ⟨x, hx, h⟩
          by_cases h5 : t < 0
          · exact ⟨181, .inr (.inr ⟨h1, h2, .inr (.inr ⟨h3', h4', .inl ⟨h5, rfl⟩⟩)⟩)⟩
          · by_cases h6 : 1099511627776 < t
            · exact ⟨181, .inr (.inr ⟨h1, h2, .inr (.inr ⟨h3', h4', .inr (.inl ⟨h6, rfl⟩)⟩)⟩)⟩
            · exact ⟨0, .inr (.inr ⟨h1, h2, .inr (.inr ⟨h3', h4', .inr (.inr ⟨by omega, by omega, rfl⟩)⟩)⟩)⟩
    · exact ⟨101, .inr (.inl ⟨h1, h2, rfl⟩)⟩
  · exact ⟨101, .inl ⟨h1, rfl⟩⟩
theorem CheckIs.uniq {L M D : List ByteArray} {X : List Int} {t u v : Int} (h : CheckIs L M D X t u) (k : CheckIs L M D X t v) : u = v := by
  rcases h with ⟨a, rfl⟩ | ⟨a1, a2, rfl⟩ | ⟨a1, a2, h⟩
  · rcases k with ⟨_, rfl⟩ | ⟨b, _⟩ | ⟨b, _⟩
    · rfl
    · exact absurd b a
    · exact absurd b a
  · rcases k with ⟨b, _⟩ | ⟨_, _, rfl⟩ | ⟨_, b, _⟩
    · exact absurd a1 b
    · rfl
    · exact absurd b a2
  · rcases k with ⟨b, _⟩ | ⟨_, b, _⟩ | ⟨_, _, k⟩
    · exact absurd a1 b
    · exact absurd a2 b
    · rcases h with ⟨⟨s, hs, h⟩, rfl⟩ | ⟨a3, ⟨x, hx, h⟩, rfl⟩ | ⟨a3, a4, h⟩
      · rcases k with ⟨_, rfl⟩ | ⟨_, _, rfl⟩ | ⟨b, _⟩
        · rfl
        · rfl
        · exact absurd (b s hs) h
      · rcases k with ⟨_, rfl⟩ | ⟨_, _, rfl⟩ | ⟨_, b, _⟩
        · rfl
        · rfl
        · exact absurd h (b x hx)
      · rcases k with ⟨⟨s, hs, k⟩, _⟩ | ⟨_, ⟨x, hx, k⟩, _⟩ | ⟨_, _, k⟩
        · exact absurd (a3 s hs) k
        · exact absurd k (a4 x hx)
        · omega
end Go.Proofs.Ytgaallkdfcckpaa
namespace Go.Proofs.Ytgaallkdfcckpaa
open Go.RowKit
set_option linter.unusedSimpArgs false
set_option linter.unusedVariables false
theorem texts_drop {w : World} {A : Option Addr} {L : List ByteArray} (h : Row w A (texts L)) (k : Nat) : Row w (A.map (·.add k)) (texts (L.drop k)) := by
  rcases h with h | ⟨b, off, rfl, hc⟩
  · have : L = [] := List.map_eq_nil_iff.1 h
    subst this; exact .inl (by simp [texts])
  · have e : (⟨b, off, none⟩ : Addr).add k = ⟨b, off + k, none⟩ := by
      unfold Addr.add; split
      · rename_i h; subst h; rfl
      · rfl
    refine .inr ⟨b, off + k, by simp [e], fun j u hu => ?_⟩
    rw [Nat.add_assoc]
    refine hc (k + j) u ?_
    unfold texts at hu ⊢
    rw [List.map_drop, List.getElem?_drop] at hu
    exact hu
theorem sub_none {s : ByteArray} {l M : List ByteArray} (h : FirstAt M s none) : ¬ (s :: l).Sublist M := fun k => by
  have hm : s ∈ M := k.subset (List.mem_cons_self ..)
  obtain ⟨j, hj, e⟩ := List.mem_iff_getElem.1 hm
  exact h j hj e
theorem sub_some : ∀ {M : List ByteArray} {s : ByteArray} {l : List ByteArray} {i : Nat}, FirstAt M s (some i) → ((s :: l).Sublist M ↔ l.Sublist (M.drop (i + 1))) := by
  intro M
  induction M with
  | nil => intro s l i h; obtain ⟨hi, _⟩ := h; simp at hi
  | cons y M ih =>
    intro s l i h
    obtain ⟨hi, e, hn⟩ := h
    cases i with
    | zero =>
      simp at e
      subst e
      simp
    | succ i =>
      have hy : y ≠ s := by have := hn 0 (by omega); simpa using this
      have hf : FirstAt M s (some i) := ⟨by simpa using hi, by simpa using e, fun j hj => by have := hn (j + 1) (by omega); simpa using this⟩
      rw [List.drop_succ_cons, ← ih hf]
      constructor
      · intro k
        cases k with
        | cons _ k => exact k
        | cons_cons _ k => exact absurd rfl hy
      · exact fun k => k.cons _
def subsetP (L M : List ByteArray) : Prop := namesP L ∧ L.Sublist M
theorem cut_case {w : World} {A : Option Addr} {n c : Nat} {L : List ByteArray} (h : Row w A (texts L)) (hn : n = L.length) (hnc : n ≤ c) (k : Nat) (hk : k ≤ n) :
    Row w (if c = k then A else A.map (·.add k)) (texts (L.drop k)) := by
  split
  · rename_i e
    left
    rw [List.drop_of_length_le (by omega)]; rfl
  · exact texts_drop h k
end Go.Proofs.Ytgaallkdfcckpaa
namespace Go.Proofs.Ytgaallkdfcckpaa
open Go.RowKit
set_option linter.unusedSimpArgs false
set_option linter.unusedVariables false
def WordsPost (w : World) (e : Ending) (w' : World) : Prop := ∃ b, e = .returned (.slice (some ⟨b, 0, none⟩) 20 20) ∧ Row w' (some ⟨b, 0, none⟩) (texts wordsL) ∧ Below w.heap.size w w'
set_option maxRecDepth 100000 in
set_option maxHeartbeats 1000000 in
theorem words_any (w : World) : Calls Try.prog 74 #[] w (WordsPost w) := by
  go_enter Try.func74, Try.ntmps74
  go_wp2_with fail
  go_ret
  exact ⟨_, rfl, Row.made rfl rfl, bpush (Below.refl _ _) _⟩
set_option maxRecDepth 100000 in
set_option maxHeartbeats 4000000 in
theorem refname_any (s : ByteArray) (w : World) (hs : s.size ≤ 9223372036854775807) (r : Bool) (hr : r = true ↔ nameP s) :
    Calls Try.prog 62 #[.string s] w fun e w' => e = .returned (.bool r) ∧ Below w.heap.size w w' := by
  have HR := Lib.hid hr
  clear hr
  have HF := Lib.hid (show ¬ nameP s → r = false from fun h => by
    cases r with
    | false => rfl
    | true => exact absurd (HR.out.1 rfl) h)
  go_enter Try.func62, Try.ntmps62
  go_wp2_with fail
  refine (words_any _).mono ?_
  rintro e w1 ⟨b, rfl, hrow, hb⟩
  have HROW := Lib.hid hrow
  have HB := Lib.hid hb
  clear hrow hb
  go_wp2_with fail
  go_loop [4] (fun i => ∃ k : Nat, k ≤ 20 ∧ i = .int .i64 k ∧ Hid (∀ (j : Nat) (h : j < wordsL.length), j < k → wordsL[j] ≠ s)) (fun i => 20 - (intOf i).toNat)
  case atStart => exact ⟨0, Nat.zero_le _, rfl, Lib.hid (fun j _ h => by omega)⟩
  case round =>
    obtain ⟨k, hk, rfl, HK⟩ := hrel
    by_cases hlt : k < 20
    · have hkz : k < wordsL.length := hlt
      have hki : (k : Int) < 20 := by omega
      have hk0 : (0 : Int) ≤ (k : Int) := by omega
      obtain ⟨b', off, he, c0⟩ := text_cell HROW.out hkz
      obtain ⟨q, hq⟩ : ∃ q, q = wordsL[k] := ⟨_, rfl⟩
      rw [← hq] at c0
      have HQ := Lib.hid hq
      cases he
      rw [Nat.zero_add] at c0
      clear hq
      by_cases hEq : q = s
      · subst hEq
        obtain rfl : r = false := HF.out fun h => h.2.2.1 (by rw [HQ.out]; exact List.getElem_mem _)
        clear hlt
        go_wp2_with fail
        go_ret
        exact ⟨rfl, HB.out⟩
      · have hs1 := str_ne hEq
        have HK2 := Lib.hid (show ∀ (j : Nat) (h : j < wordsL.length), j < k + 1 → wordsL[j] ≠ s from fun j h hj => by
          rcases Nat.lt_or_ge j k with e | e
          · exact HK.out j h e
          · obtain rfl : j = k := by omega
            rw [← HQ.out]; exact hEq)
        clear hlt hEq
        go_wp2_with fail
        go_round
        case rel => exact ⟨k + 1, by omega, by go_num, HK2⟩
        case measure => simp [intOf]; omega
    · have hge : ¬ (k : Int) < 20 := by omega
      have HW := Lib.hid (show s ∉ wordsL from fun h => by
        obtain ⟨j, hj, e⟩ := List.mem_iff_getElem.1 h
        exact HK.out j hj (by have : j < 20 := hj; omega) e)
      clear hlt
      go_wp2_with fail
      go_loop [5] (fun i => ∃ k : Nat, k ≤ s.size ∧ i = .int .i64 k ∧ Hid (∀ (i : Nat) (h : i < s.size), i < k → okN i (s[i]'h).toNat)) (fun i => s.size - (intOf i).toNat)
      case atStart => exact ⟨0, Nat.zero_le _, rfl, Lib.hid (fun j _ h => by omega)⟩
      case round =>
        obtain ⟨p, hp, rfl, HO⟩ := hrel
        by_cases hlt : p < s.size
        · have hpi : (p : Int) < (s.size : Int) := by omega
          have hp0 : (0 : Int) ≤ (p : Int) := by omega
          obtain ⟨x, hx⟩ : ∃ x, (s[p]'hlt).toNat = x := ⟨_, rfl⟩
          have HN := Lib.hid (show okN p x → ∀ (i : Nat) (h : i < s.size), i < p + 1 → okN i (s[i]'h).toNat from fun hk i h hi => by
            rcases Nat.lt_or_ge i p with e | e
            · exact HO.out i h e
            · obtain rfl : i = p := by omega
              rw [hx]; exact hk)
          have HNO := Lib.hid (show ¬ okN p x → r = false from fun hk => HF.out fun h => hk (by have := h.2.2.2 p hlt; rw [hx] at this; exact this))
          by_cases hl : 97 ≤ x ∧ x ≤ 122
          · have d1 : decide ((97 : Int) ≤ (x : Int)) = true := by simp; omega
            have d2 : decide ((x : Int) ≤ 122) = true := by simp; omega
            have d3 : decide ((48 : Int) ≤ (x : Int)) = true := by simp; omega
            have d4 : decide ((x : Int) ≤ 57) = false := by simp; omega
            have d5 : ((x : Int) == 95) = false := by rw [beq_eq_false_iff_ne]; omega
            have HN2 := Lib.hid (HN.out (.inl hl))
            clear hl
            go_wp2_with fail
            go_round
            case rel => exact ⟨p + 1, by omega, by go_num, HN2⟩
            case measure => simp [intOf]; omega
          · have hlet : ∃ d1 d2 : Bool, decide ((97 : Int) ≤ (x : Int)) = d1 ∧ decide ((x : Int) ≤ 122) = d2 ∧ (d1 && d2) = false := ⟨_, _, rfl, rfl, by simp; omega⟩
            by_cases hg : (48 ≤ x ∧ x ≤ 57) ∨ x = 95
            · have d1 : decide ((97 : Int) ≤ (x : Int)) = false := by simp; omega
              have d3 : decide ((48 : Int) ≤ (x : Int)) = true := by simp; omega
              by_cases hp0' : p = 0
              · have d6 : ((p : Int) == 0) = true := by rw [beq_iff_eq]; omega
                obtain rfl : r = false := HNO.out (fun h => by rcases h with h | ⟨h, _⟩ <;> omega)
                rcases hg with hg | hg
                · have d4 : decide ((x : Int) ≤ 57) = true := by simp; omega
                  clear hl hg hp0' hlet
                  go_wp2_with fail
                  go_ret
                  exact ⟨rfl, HB.out⟩
                · have d4 : decide ((x : Int) ≤ 57) = false := by simp; omega
                  have d5 : ((x : Int) == 95) = true := by rw [beq_iff_eq]; omega
                  clear hl hg hp0' hlet
                  go_wp2_with fail
                  go_ret
                  exact ⟨rfl, HB.out⟩
              · have d6 : ((p : Int) == 0) = false := by rw [beq_eq_false_iff_ne]; omega
                have HN2 := Lib.hid (HN.out (.inr ⟨by omega, hg⟩))
                rcases hg with hg | hg
                · have d4 : decide ((x : Int) ≤ 57) = true := by simp; omega
                  clear hl hg hp0' hlet
                  go_wp2_with fail
                  go_round
                  case rel => exact ⟨p + 1, by omega, by go_num, HN2⟩
                  case measure => simp [intOf]; omega
                · have d4 : decide ((x : Int) ≤ 57) = false := by simp; omega
                  have d5 : ((x : Int) == 95) = true := by rw [beq_iff_eq]; omega
                  clear hl hg hp0' hlet
                  go_wp2_with fail
                  go_round
                  case rel => exact ⟨p + 1, by omega, by go_num, HN2⟩
                  case measure => simp [intOf]; omega
            · obtain rfl : r = false := HNO.out (fun h => by rcases h with h | ⟨_, h⟩ <;> omega)
              have d5 : ((x : Int) == 95) = false := by rw [beq_eq_false_iff_ne]; omega
              by_cases hc1 : x < 48
              · have d1 : decide ((97 : Int) ≤ (x : Int)) = false := by simp; omega
                have d3 : decide ((48 : Int) ≤ (x : Int)) = false := by simp; omega
                clear hl hg hc1 hlet
                go_wp2_with fail
                go_ret
                exact ⟨rfl, HB.out⟩
              have d3 : decide ((48 : Int) ≤ (x : Int)) = true := by simp; omega
              have d4 : decide ((x : Int) ≤ 57) = false := by simp; omega
              by_cases hc2 : x < 97
              · have d1 : decide ((97 : Int) ≤ (x : Int)) = false := by simp; omega
                clear hl hg hc1 hc2 hlet
                go_wp2_with fail
                go_ret
                exact ⟨rfl, HB.out⟩
              · have d1 : decide ((97 : Int) ≤ (x : Int)) = true := by simp; omega
                have d2 : decide ((x : Int) ≤ 122) = false := by simp; omega
                clear hl hg hc1 hc2 hlet
                go_wp2_with fail
                go_ret
                exact ⟨rfl, HB.out⟩
        · have hge2 : ¬ (p : Int) < (s.size : Int) := by omega
          obtain ⟨z, hz⟩ : ∃ z, s.size = z := ⟨_, rfl⟩
          have HA := Lib.hid (show ∀ (i : Nat) (h : i < s.size), okN i (s[i]'h).toNat from fun i h => HO.out i h (by omega))
          by_cases h1 : z < 1
          · obtain rfl : r = false := HF.out fun h => by have := h.1; omega
            have d1 : decide ((1 : Int) ≤ (z : Int)) = false := by simp; omega
            have d0 : ¬ (1 : Int) ≤ (z : Int) := by omega
            clear hlt h1
            go_wp2_with fail
            go_ret
            exact ⟨rfl, HB.out⟩
          have d1 : decide ((1 : Int) ≤ (z : Int)) = true := by simp; omega
          by_cases h2 : 12 < z
          · obtain rfl : r = false := HF.out fun h => by have := h.2.1; omega
            have d2 : decide ((z : Int) ≤ 12) = false := by simp; omega
            clear hlt h1 h2
            go_wp2_with fail
            go_ret
            exact ⟨rfl, HB.out⟩
          · obtain rfl : r = true := HR.out.2 ⟨by omega, by omega, HW.out, HA.out⟩
            have d2 : decide ((z : Int) ≤ 12) = true := by simp; omega
            clear hlt h1 h2
            go_wp2_with fail
            go_ret
            exact ⟨rfl, HB.out⟩
set_option maxRecDepth 100000 in
set_option maxHeartbeats 4000000 in
theorem refvalue_any (s : ByteArray) (w : World) (hs : s.size ≤ 9223372036854775807) (r : Bool) (hr : r = true ↔ valP s) :
    Calls Try.prog 75 #[.string s] w fun e w' => e = .returned (.bool r) ∧ w = w' := by
  have HR := Lib.hid hr
  clear hr
  have HF := Lib.hid (show ¬ valP s → r = false from fun h => by
    cases r with
    | false => rfl
    | true => exact absurd (HR.out.1 rfl) h)
  go_enter Try.func75, Try.ntmps75
  go_wp2_with fail
  go_loop [3] (fun i => ∃ k : Nat, k ≤ s.size ∧ i = .int .i64 k ∧ Hid (∀ (i : Nat) (h : i < s.size), i < k → wrongV (s[i]'h).toNat = false)) (fun i => s.size - (intOf i).toNat)
  case atStart => exact ⟨0, Nat.zero_le _, rfl, Lib.hid (fun j _ h => by omega)⟩
  case round =>
    obtain ⟨p, hp, rfl, HO⟩ := hrel
    by_cases hlt : p < s.size
    · have hpi : (p : Int) < (s.size : Int) := by omega
      have hp0 : (0 : Int) ≤ (p : Int) := by omega
      obtain ⟨x, hx⟩ : ∃ x, (s[p]'hlt).toNat = x := ⟨_, rfl⟩
      have HNO := Lib.hid (show wrongV x = true → r = false from fun hk => HF.out fun h => by have := h.2 p hlt; rw [hx, hk] at this; cases this)
      by_cases h1 : x < 32
      · obtain rfl : r = false := HNO.out (by simp [wrongV]; omega)
        have d1 : decide ((x : Int) < 32) = true := by simp; omega
        clear h1
        go_wp2_with fail
        go_ret
        exact ⟨rfl, rfl⟩
      have d1 : decide ((x : Int) < 32) = false := by simp; omega
      by_cases h2 : 126 < x
      · obtain rfl : r = false := HNO.out (by simp [wrongV]; omega)
        have d2 : decide ((126 : Int) < (x : Int)) = true := by simp; omega
        clear h1 h2
        go_wp2_with fail
        go_ret
        exact ⟨rfl, rfl⟩
      have d2 : decide ((126 : Int) < (x : Int)) = false := by simp; omega
      by_cases h3 : x = 34
      · obtain rfl : r = false := HNO.out (by simp [wrongV]; omega)
        have d3 : ((x : Int) == 34) = true := by rw [beq_iff_eq]; omega
        clear h1 h2 h3
        go_wp2_with fail
        go_ret
        exact ⟨rfl, rfl⟩
      have d3 : ((x : Int) == 34) = false := by rw [beq_eq_false_iff_ne]; omega
      by_cases h4 : x = 92
      · obtain rfl : r = false := HNO.out (by simp [wrongV]; omega)
        have d4 : ((x : Int) == 92) = true := by rw [beq_iff_eq]; omega
        clear h1 h2 h3 h4
        go_wp2_with fail
        go_ret
        exact ⟨rfl, rfl⟩
      have d4 : ((x : Int) == 92) = false := by rw [beq_eq_false_iff_ne]; omega
      have HN2 := Lib.hid (show ∀ (i : Nat) (h : i < s.size), i < p + 1 → wrongV (s[i]'h).toNat = false from fun i h hi => by
        rcases Nat.lt_or_ge i p with e | e
        · exact HO.out i h e
        · obtain rfl : i = p := by omega
          rw [hx]; simp [wrongV]; omega)
      clear h1 h2 h3 h4
      go_wp2_with fail
      go_round
      case rel => exact ⟨p + 1, by omega, by go_num, HN2⟩
      case measure => simp [intOf]; omega
    · have hge2 : ¬ (p : Int) < (s.size : Int) := by omega
      obtain ⟨z, hz⟩ : ∃ z, s.size = z := ⟨_, rfl⟩
      have HA := Lib.hid (show valueP s from fun i h => HO.out i h (by omega))
      by_cases h1 : z ≤ 24
      · obtain rfl : r = true := HR.out.2 ⟨by omega, HA.out⟩
        have d2 : decide ((z : Int) ≤ 24) = true := by simp; omega
        clear hlt h1
        go_wp2_with fail
        go_ret
        exact ⟨rfl, rfl⟩
      · obtain rfl : r = false := HF.out fun h => by have := h.1; omega
        have d2 : decide ((z : Int) ≤ 24) = false := by simp; omega
        clear hlt h1
        go_wp2_with fail
        go_ret
        exact ⟨rfl, rfl⟩
end Go.Proofs.Ytgaallkdfcckpaa
namespace Go.Proofs.Ytgaallkdfcckpaa
open Go.RowKit
set_option linter.unusedSimpArgs false
set_option linter.unusedVariables false
theorem run_append_texts (w : World) (ty : TypeId) (base : Nat) (v : Value) (n : Nat) (xs : List Value) (hown : w.ownsRow base 9 1 v n xs) (A : Option Addr) (m c : Nat) (M : List ByteArray)
    (hrow : Row w A (texts M)) (hm : m = M.length) (hmc : m ≤ c) (ha : A = none → c = 0) (h63 : (n + m) * 16 ≤ 140737488355328) (hbase : base ≤ w.heap.size) :
    ∃ v' w', (Builtin.append_ #[22, 22] ty #[v, .slice A m c]).run Try.prog w = .ok v' w' ∧ w'.ownsRow base 9 1 v' (n + m) (xs ++ texts M) ∧ w.grownBy w' v.ownBlock ∧ (v'.ownBlock = v.ownBlock ∨ v'.ownBlock = some w.heap.size) := by
  obtain ⟨i0, hi0, hz0, hz1, hz2⟩ := info_parts info9
  cases A with
  | none =>
    have e1 : c = 0 := ha rfl
    have e2 : m = 0 := by omega
    have e3 : M = [] := List.eq_nil_of_length_eq_zero (by omega)
    subst e1 e2 e3
    have hrun := run_append_owned_none (P := Try.prog) (w := w) base 22 ty 9 i0 1 Try.underlying22 hi0 v n xs hown
    exact ⟨v, w, hrun, by simpa [texts] using hown, ⟨rfl, rfl, rfl, Nat.le_refl _, fun _ _ _ => rfl⟩, .inl rfl⟩
  | some a =>
    obtain ⟨v', w', hr, h2, h3, _, h5⟩ := run_append_own_at (P := Try.prog) w base 22 ty 9 i0 (.string ⟨#[]⟩) 1 16 Try.underlying22 hi0 hz0 hz1 hz2 rfl (by decide) v n xs hown a m c (texts M) (by rw [Nat.mul_one]; simp [texts]; exact hm.symm) hrow.at' (one_texts M) (by unfold maxLen; omega) h63 hbase
    exact ⟨v', w', hr, h2, h3, h5⟩
theorem step_append_texts {w : World} {ops : Array Oper} {o : Oper} {a : Act} {K : Act → World → Prop} {Q : Exit → Act → World → Prop} {E : Prop} (hgd : o.guard = none) (s x : Operand)
    (ho : o.op = .call { callee := .builtin .append, args := #[s, x], argTypes := #[22, 22] })
    (base : Nat) (v : Value) (n : Nat) (xs : List Value) (hs : a.eval s = v) (A : Option Addr) (m c : Nat) (M : List ByteArray) (hx : a.eval x = .slice A m c) (hown : w.ownsRow base 9 1 v n xs)
    (hrow : Row w A (texts M)) (hm : m = M.length) (hmc : m ≤ c) (ha : A = none → c = 0) (h63 : (n + m) * 16 ≤ 140737488355328) (hbase : base ≤ w.heap.size)
    (h : ∀ v' w', w'.ownsRow base 9 1 v' (n + m) (xs ++ texts M) → w.grownBy w' v.ownBlock → (v'.ownBlock = v.ownBlock ∨ v'.ownBlock = some w.heap.size) → K (a.put o.dst v') w') :
    if Region.wanted o (yielded ops a.tmps) = true then Oper.wp Try.prog o a w K Q else E := by
  have hw : Region.wanted o (yielded ops a.tmps) = true := by simp [Region.wanted, hgd]
  rw [if_pos hw]
  obtain ⟨v', w', hr, h2, h3, h4⟩ := run_append_texts w o.type base v n xs hown A m c M hrow hm hmc ha h63 hbase
  unfold Oper.wp execOp
  simp only [ho, resolve, invoke, builtin, Sem.run_bind, Sem.run_pure, Result.andThen_ok, List.map_toArray, List.map_cons, List.map_nil, hs, hx, hr]
  exact h v' w' h2 h3 h4
theorem wpList_append_texts {w : World} {ops : Array Oper} {rest : List Oper} {o : Oper} {a : Act} {Q : Exit → Act → World → Prop} (hgd : o.guard = none) (s x : Operand)
    (ho : o.op = .call { callee := .builtin .append, args := #[s, x], argTypes := #[22, 22] })
    (base : Nat) (v : Value) (n : Nat) (xs : List Value) (hs : a.eval s = v) (A : Option Addr) (m c : Nat) (M : List ByteArray) (hx : a.eval x = .slice A m c) (hown : w.ownsRow base 9 1 v n xs)
    (hrow : Row w A (texts M)) (hm : m = M.length) (hmc : m ≤ c) (ha : A = none → c = 0) (h63 : (n + m) * 16 ≤ 140737488355328) (hbase : base ≤ w.heap.size)
    (h : ∀ v' w', w'.ownsRow base 9 1 v' (n + m) (xs ++ texts M) → w.grownBy w' v.ownBlock → (v'.ownBlock = v.ownBlock ∨ v'.ownBlock = some w.heap.size) → wpList Try.prog ops Q rest (a.put o.dst v') w') :
    wpList Try.prog ops Q (o :: rest) a w := by
  refine wpList_plain hgd fun K hK => ?_
  obtain ⟨v', w', hr, h2, h3, h4⟩ := run_append_texts w o.type base v n xs hown A m c M hrow hm hmc ha h63 hbase
  unfold Oper.wp execOp
  simp only [ho, resolve, invoke, builtin, Sem.run_bind, Sem.run_pure, Result.andThen_ok, List.map_toArray, List.map_cons, List.map_nil, hs, hx, hr]
  exact hK _ _ (h v' w' h2 h3 h4)
theorem own_empty {w : World} {B : Nat} {t : TypeId} {size : Nat} (hB : B ≤ w.heap.size) : (w.alloc (.cells #[] t)).ownsRow B t size (.slice (some ⟨w.heap.size, 0, none⟩) 0 0) 0 [] :=
  ⟨by simp, .inr ⟨w.heap.size, 0, #[], rfl, hB, heap_alloc_new w _, Nat.le_refl _, Nat.zero_le _, by simp, by simp⟩⟩
theorem own_dr {w : World} {B : Nat} {t : TypeId} {size n : Nat} {v : Value} {xs : List Value} (h : w.ownsRow B t size v n xs) (q : Nat) : (w.drewN q).ownsRow B t size v n xs := h
theorem row_dr {w : World} {A : Option Addr} {xs : List Value} (h : Row w A xs) (q : Nat) : Row (w.drewN q) A xs := h
theorem bool_of (p : Prop) : ∃ q : Bool, q = true ↔ p := by
  by_cases h : p
  · exact ⟨true, by simp [h]⟩
  · exact ⟨false, by simp [h]⟩
theorem cell_made {W : World} {xs : Array Value} {t : TypeId} {b j : Nat} {u : Value} (hb : b = W.heap.size) (h : xs[j]? = some u) : (W.alloc (.cells xs t)).cell? ⟨b, j, none⟩ = some u := by
  subst hb; simp [h]
end Go.Proofs.Ytgaallkdfcckpaa
namespace Go.Proofs.Ytgaallkdfcckpaa
open Go.RowKit
set_option linter.unusedSimpArgs false
set_option linter.unusedVariables false
set_option maxRecDepth 100000 in
set_option maxHeartbeats 8000000 in
theorem refright_any (A B : Option Addr) (n c m d : Nat) (L M : List ByteArray) (w : World) (hA : Row w A (texts L)) (hB : Row w B (texts M)) (hn : n = L.length) (hm : m = M.length) (hnc : n ≤ c) (hmd : m ≤ d) (ha : A = none → c = 0) (hb : B = none → d = 0)
    (hL : ∀ s ∈ L, s.size ≤ 9223372036854775807) (hM : ∀ s ∈ M, s.size ≤ 9223372036854775807) (hn2 : n ≤ 1000000) (hm2 : m * 16 ≤ 140737471000000) (r : Bool) (hr : r = true ↔ rightP L M) :
    Calls Try.prog 42 #[.agg #[.slice A n c, .slice B m d]] w fun e w' => e = .returned (.bool r) ∧ Below w.heap.size w w' := by
  have HN := Lib.hid hn
  have HM := Lib.hid hm
  have Ha := Lib.hid ha
  have Hb := Lib.hid hb
  have HR := Lib.hid hr
  have HL := Lib.hid (show ∀ s ∈ L ++ M, s.size ≤ 9223372036854775807 from fun s hs => (List.mem_append.1 hs).elim (hL s) (hM s))
  have HF := Lib.hid (show ¬ rightP L M → r = false from fun h => by
    cases r with
    | false => rfl
    | true => exact absurd (hr.1 rfl) h)
  obtain ⟨W0, hW0⟩ : ∃ W0, W0 = w.alloc (.cells #[.slice A n c, .slice B m d] 24) := ⟨_, rfl⟩
  have hb0 : Below w.heap.size w W0 := by rw [hW0]; exact bpush (Below.refl _ _) _
  have g0 : W0.cell? ⟨w.heap.size, 0, none⟩ = some (.slice A n c) := by rw [hW0]; simp
  have j0 : W0.cell? ⟨w.heap.size, 1, none⟩ = some (.slice B m d) := by rw [hW0]; simp
  have hbig : w.heap.size + 1 = W0.heap.size := by rw [hW0]; simp
  have HBIG := Lib.hid hbig
  have HW0 := Lib.hid hW0
  have HB := Lib.hid hb0
  have HA0 := Lib.hid (hA.keep (Nat.le_refl _) hb0)
  have HB0 := Lib.hid (hB.keep (Nat.le_refl _) hb0)
  clear hW0 hb0 hA hB hn hm ha hb hL hM hr hbig
  go_enter Try.func42, Try.ntmps42
  go_wp2_with fail
  rw [← HW0.out]
  go_region_held3 (fun w' => (w'.cell? ⟨w.heap.size, 0, none⟩ = some (.slice A n c) ∧ w'.cell? ⟨w.heap.size, 1, none⟩ = some (.slice B m d)) ∧ Below W0.heap.size W0 w')
    (first
      | exact ⟨⟨g0, j0⟩, below_drewN (Below.refl _ _) 1⟩
      | exact ⟨⟨cell_on (below_drewN (bpush (Below.refl _ _) _) 1) g0, cell_on (below_drewN (bpush (Below.refl _ _) _) 1) j0⟩, below_drewN (bpush (Below.refl _ _) _) 1⟩
      | exact ⟨⟨cell_on hbz2 g0, cell_on hbz2 j0⟩, hbz2⟩
      | exact ⟨⟨cell_on hbz g0, cell_on hbz j0⟩, hbz⟩)
    (first
      | (refine step_append_texts rfl _ _ rfl W0.heap.size (.slice (some ⟨W0.heap.size, 0, none⟩) 0 0) 0 [] rfl A n c L rfl ?own ?row HN.out hnc Ha.out ?q1 ?q2 ?_
         case own => exact own_dr (own_empty (Nat.le_refl _)) 1
         case row => exact row_dr (HA0.out.keep (Nat.le_refl _) (bpush (Below.refl _ _) _)) 1
         case q1 => omega
         case q2 => simp
         intro v1 w1 ho1 hg1 _
         have hbz : Below W0.heap.size W0 w1 := (below_drewN (bpush (Below.refl _ _) _) 1).trans (grown_below (own_dr (own_empty (Nat.le_refl _)) 1) hg1 (by simp)))
      | (refine step_append_texts rfl _ _ rfl W0.heap.size v1 (0 + n) ([] ++ texts L) rfl B m d M rfl ho1 ?row HM.out hmd Hb.out ?q1 ?q2 ?_
         case row => exact HB0.out.keep (Nat.le_refl _) hbz
         case q1 => omega
         case q2 => exact hbz.size
         intro v2 w2 ho2 hg2 _
         have hbz2 : Below W0.heap.size W0 w2 := hbz.trans (grown_below ho1 hg2 hbz.size)))
  obtain ⟨A3, c3, rfl, hr3, hc3, _⟩ := own_slice ho2
  have HR3 := Lib.hid (show Row w2 A3 (texts (L ++ M)) by rw [List.nil_append, texts_append] at hr3; exact hr3)
  obtain ⟨⟨k0, k1⟩, _⟩ : (w2.cell? ⟨w.heap.size, 0, none⟩ = some (.slice A n c) ∧ w2.cell? ⟨w.heap.size, 1, none⟩ = some (.slice B m d)) ∧ Below W0.heap.size W0 w2 := by assumption
  obtain ⟨t, ht⟩ : ∃ t, t = 0 + n + m := ⟨_, rfl⟩
  have HT := Lib.hid (show t = (L ++ M).length by rw [List.length_append, ← HN.out, ← HM.out, ht]; omega)
  have ht2 : t ≤ 9223372036854775807 := by omega
  have HBZ := Lib.hid hbz2
  rw [← ht] at hc3 ⊢
  obtain ⟨U, hU⟩ : ∃ U, U = L ++ M := ⟨_, rfl⟩
  rw [← hU] at HR3 HT HL
  have HU := Lib.hid hU
  clear ho1 hg1 ho2 hg2 hbz hbz2 hr3 g0 j0 ht hU
  go_wp2_with fail
  go_loopw [4] (fun i wr => ∃ k : Nat, k ≤ t ∧ i = .int .i64 k ∧ Hid (Below w2.heap.size w2 wr) ∧ Hid (∀ (j : Nat) (h : j < U.length), j < k → nameP U[j]) ∧ Hid (∀ (i j : Nat) (hij : i < j) (h : j < U.length), j < k → U[i]'(Nat.lt_trans hij h) ≠ U[j])) (fun i _ => t - (intOf i).toNat)
  case atStart => exact ⟨0, Nat.zero_le _, rfl, Lib.hid (Below.refl _ _), Lib.hid (fun j _ h => by omega), Lib.hid (fun i j _ _ h => by omega)⟩
  case round =>
    obtain ⟨k, hk, rfl, HBW, HK1, HK2⟩ := hrel
    by_cases hlt : k < t
    · have hkz : k < U.length := by have := HT.out; omega
      have hki : (k : Int) < (t : Int) := by omega
      have hk0 : (0 : Int) ≤ (k : Int) := by omega
      obtain ⟨b, off, hAe, c0⟩ := text_cell (HR3.out.keep (Nat.le_refl _) HBW.out) hkz
      obtain ⟨s, hs⟩ : ∃ s, s = U[k] := ⟨_, rfl⟩
      rw [← hs] at c0
      have HS := Lib.hid hs
      obtain ⟨q, hq⟩ := bool_of (nameP s)
      have HQ := Lib.hid hq
      subst hAe
      clear hq hs
      go_wp2_with fail
      refine (refname_any s _ (by rw [HS.out]; exact HL.out _ (List.getElem_mem _)) q HQ.out).mono ?_
      rintro e w3 ⟨rfl, hb3⟩
      have HB3 := Lib.hid (bthen HBW.out hb3)
      have c1 := cell_on hb3 c0
      clear hb3 c0
      cases q with
      | false =>
        obtain rfl : r = false := HF.out fun h => by
          have := h.2.2.2.1 s (by rw [HS.out, ← HU.out]; exact List.getElem_mem _)
          have := HQ.out.2 this; cases this
        clear hlt
        go_wp2_with fail
        go_ret
        exact ⟨rfl, bthen HB.out (bthen HBZ.out HB3.out)⟩
      | true =>
        have HNM := Lib.hid (HQ.out.1 rfl)
        go_wp2_with fail
        go_loopw [6] (fun i wr' => ∃ p : Nat, p ≤ k ∧ i = .int .i64 p ∧ Hid (Below w3.heap.size w3 wr') ∧ Hid (∀ (j : Nat) (h : j < k), U[j] ≠ s ∨ p ≤ j)) (fun i _ => k - (intOf i).toNat)
        case atStart => exact ⟨0, Nat.zero_le _, rfl, Lib.hid (Below.refl _ _), Lib.hid (fun j _ => .inr (Nat.zero_le _))⟩
        case round =>
          obtain ⟨p, hp, rfl, HBP, HPP⟩ := hrel
          by_cases hpk : p < k
          · have hpz : p < U.length := by omega
            have hpi : (p : Int) < (k : Int) := by omega
            have hpt : (p : Int) < (t : Int) := by omega
            have hp0 : (0 : Int) ≤ (p : Int) := by omega
            obtain ⟨b', off', he, cp⟩ := text_cell (HR3.out.keep (Nat.le_refl _) (HB3.out.trans (HBP.out.mono HB3.out.size))) hpz
            cases he
            have ck := cell_on HBP.out c1
            obtain ⟨x, hx⟩ : ∃ x, x = U[p] := ⟨_, rfl⟩
            rw [← hx] at cp
            have HX := Lib.hid hx
            clear hx c1
            by_cases hxs : x = s
            · subst hxs
              obtain rfl : r = false := HF.out fun h => by
                have := h.2.2.2.2 p k hpk (by rw [← HU.out]; exact hkz)
                have e1 := HX.out
                have e2 := HS.out
                have e3 := HU.out
                subst e3
                exact this (e1.symm.trans e2)
              clear hlt hpk
              go_wp2_with fail
              go_quiet (fail)
              go_wp2_with fail
              go_ret
              exact ⟨rfl, below_drewN (bthen HB.out (bthen HBZ.out (bthen HB3.out HBP.out))) _⟩
            · have hne := str_ne hxs
              have HP2 := Lib.hid (show ∀ (j : Nat) (h : j < k), U[j] ≠ s ∨ p + 1 ≤ j from fun j h => by
                rcases HPP.out j h with e | e
                · exact .inl e
                · rcases Nat.eq_or_lt_of_le e with e | e
                  · subst e; exact .inl (by rw [← HX.out]; exact hxs)
                  · exact .inr e)
              clear hlt hpk hxs
              go_wp2_with fail
              go_quiet (fail)
              go_wp2_with fail
              go_roundw
              case rel => exact ⟨p + 1, by omega, by go_num, Lib.hid (below_drewN HBP.out _), HP2⟩
              case measure => simp [intOf]; omega
          · have hge : ¬ (p : Int) < (k : Int) := by omega
            have HK1' := Lib.hid (show ∀ (j : Nat) (h : j < U.length), j < k + 1 → nameP U[j] from fun j h hj => by
              rcases Nat.lt_or_ge j k with e | e
              · exact HK1.out j h e
              · obtain rfl : j = k := by omega
                rw [← HS.out]; exact HNM.out)
            have HK2' := Lib.hid (show ∀ (i j : Nat) (hij : i < j) (h : j < U.length), j < k + 1 → U[i]'(Nat.lt_trans hij h) ≠ U[j] from fun i j hij h hj => by
              rcases Nat.lt_or_ge j k with e | e
              · exact HK2.out i j hij h e
              · obtain rfl : j = k := by omega
                rcases HPP.out i hij with e | e
                · rw [← HS.out]; exact e
                · omega)
            have HBN := Lib.hid (HB3.out.trans (HBP.out.mono HB3.out.size))
            clear hlt hpk c1
            go_wp2_with fail
            go_roundw
            case rel => exact ⟨k + 1, by omega, by go_num, HBN, HK1', HK2'⟩
            case measure => simp [intOf]; omega
    · have hge : ¬ (k : Int) < (t : Int) := by omega
      have HNP := Lib.hid (show namesP (L ++ M) by
        rw [← HU.out]
        exact ⟨fun s hs => by
          obtain ⟨j, hj, rfl⟩ := List.mem_iff_getElem.1 hs
          exact HK1.out j hj (by have := HT.out; omega), fun i j hij h => HK2.out i j hij h (by have := HT.out; omega)⟩)
      have l0 := cell_on HBW.out k0
      have l1 := cell_on HBW.out k1
      have HBE := Lib.hid (show Below w.heap.size w wr from HB.out.trans ((HBZ.out.trans (HBW.out.mono HBZ.out.size)).mono (by have := HBIG.out; omega)))
      clear k0 k1 hlt
      by_cases h1 : 1 ≤ n
      · have d1 : decide ((1 : Int) ≤ (n : Int)) = true := by simp; omega
        by_cases h2 : n ≤ 6
        · have d2 : decide ((n : Int) ≤ 6) = true := by simp; omega
          by_cases h3 : m ≤ 4
          · have d3 : decide ((m : Int) ≤ 4) = true := by simp; omega
            obtain rfl : r = true := HR.out.2 ⟨by rw [← HN.out]; exact h1, by rw [← HN.out]; exact h2, by rw [← HM.out]; exact h3, HNP.out⟩
            clear h1 h2 h3
            go_wp2_with fail
            go_ret
            exact ⟨rfl, HBE.out⟩
          · have d3 : decide ((m : Int) ≤ 4) = false := by simp; omega
            obtain rfl : r = false := HF.out fun h => h3 (by have := h.2.2.1; rw [HM.out]; exact this)
            clear h1 h2 h3
            go_wp2_with fail
            go_ret
            exact ⟨rfl, HBE.out⟩
        · have d2 : decide ((n : Int) ≤ 6) = false := by simp; omega
          obtain rfl : r = false := HF.out fun h => h2 (by have := h.2.1; rw [HN.out]; exact this)
          clear h1 h2
          go_wp2_with fail
          go_ret
          exact ⟨rfl, HBE.out⟩
      · have d1 : decide ((1 : Int) ≤ (n : Int)) = false := by simp; omega
        obtain rfl : r = false := HF.out fun h => h1 (by have := h.1; rw [HN.out]; exact this)
        clear h1
        go_wp2_with fail
        go_ret
        exact ⟨rfl, HBE.out⟩
end Go.Proofs.Ytgaallkdfcckpaa
namespace Go.Proofs.Ytgaallkdfcckpaa
open Go.RowKit
set_option linter.unusedSimpArgs false
set_option linter.unusedVariables false
end Go.Proofs.Ytgaallkdfcckpaa
