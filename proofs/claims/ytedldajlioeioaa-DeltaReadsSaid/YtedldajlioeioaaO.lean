/- A script of acts as memory holds it, and the bytes of its acts. -/
import Derived.Test.YtedldajlioeioaaN
namespace Go.Proofs.Ytedldajlioeioaa
open Go.RowKit
structure Act5 where
  kind : Int
  n : Int
  least : Int
  most : Int
  s : ByteArray
/-- The cells of a slice of acts. -/
def Script (w : World) (A : Option Addr) (L : List Act5) : Prop :=
  L = [] ∨ ∃ b off, A = some ⟨b, off, none⟩ ∧ ∀ i (h : i < L.length), w.cell? ⟨b, off + i * 5, none⟩ = some (.int .i64 L[i].kind) ∧ w.cell? ⟨b, off + i * 5 + 1, none⟩ = some (.int .i64 L[i].n) ∧
    w.cell? ⟨b, off + i * 5 + 2, none⟩ = some (.int .i64 L[i].least) ∧ w.cell? ⟨b, off + i * 5 + 3, none⟩ = some (.int .i64 L[i].most) ∧ w.cell? ⟨b, off + i * 5 + 4, none⟩ = some (.string L[i].s)
theorem Script.keep {w w' : World} {A : Option Addr} {L : List Act5} (h : Script w A L) (hb : Below w.heap.size w w') : Script w' A L := by
  rcases h with h | ⟨b, off, rfl, hc⟩
  · exact .inl h
  · refine .inr ⟨b, off, rfl, fun i hi => ?_⟩
    obtain ⟨h0, h1, h2, h3, h4⟩ := hc i hi
    exact ⟨cell_on hb h0, cell_on hb h1, cell_on hb h2, cell_on hb h3, cell_on hb h4⟩
theorem Script.at {w : World} {A : Option Addr} {L : List Act5} (h : Script w A L) {i : Nat} (hi : i < L.length) :
    ∃ b off, A = some ⟨b, off, none⟩ ∧ w.cell? ⟨b, off + i * 5, none⟩ = some (.int .i64 L[i].kind) ∧ w.cell? ⟨b, off + i * 5 + 1, none⟩ = some (.int .i64 L[i].n) ∧
    w.cell? ⟨b, off + i * 5 + 2, none⟩ = some (.int .i64 L[i].least) ∧ w.cell? ⟨b, off + i * 5 + 3, none⟩ = some (.int .i64 L[i].most) ∧ w.cell? ⟨b, off + i * 5 + 4, none⟩ = some (.string L[i].s) := by
  rcases h with h | ⟨b, off, rfl, hc⟩
  · subst h; simp at hi
  · exact ⟨b, off, rfl, hc i hi⟩
def encA (a : Act5) : List Int := encV a.n ++ encV a.s.size ++ sB a.s
def flatA (L : List Act5) : List Int := L.flatMap fun a => if a.s.size ≤ 400 then encA a else []
theorem flat_nil : flatA [] = [] := rfl
theorem flat_cons (a : Act5) (L : List Act5) : flatA (a :: L) = (if a.s.size ≤ 400 then encA a else []) ++ flatA L := by simp [flatA]
theorem flat_snoc (L : List Act5) (a : Act5) : flatA (L ++ [a]) = flatA L ++ (if a.s.size ≤ 400 then encA a else []) := by simp [flatA]
theorem flat_succ_good {L : List Act5} {k : Nat} (h : k < L.length) (hg : L[k].s.size ≤ 400) : flatA (L.take (k + 1)) = flatA (L.take k) ++ encV L[k].n ++ encV L[k].s.size ++ sB L[k].s := by
  rw [take_snoc _ _ h, flat_snoc, if_pos hg]; simp [encA]
theorem flat_succ_bad {L : List Act5} {k : Nat} (h : k < L.length) (hg : ¬ L[k].s.size ≤ 400) : flatA (L.take (k + 1)) = flatA (L.take k) := by
  rw [take_snoc _ _ h, flat_snoc, if_neg hg]; simp
theorem encV_len (v : Int) : (encV v).length ≤ 10 := by rw [encV, encI_length]; exact (groups_bd _).2
/-- A value that is a slice of bytes. -/
def XV (w : World) (v : Value) (xs : List Int) : Prop := ∃ A c, v = .slice A xs.length c ∧ xs.length ≤ c ∧ Row w A (xs.map (Value.int .u8)) ∧ (xs = [] → A = none ∧ c = 0)
theorem XV.keep {w w' : World} {v : Value} {xs : List Int} (h : XV w v xs) (hb : Below w.heap.size w w') : XV w' v xs := by
  obtain ⟨A, c, h1, h2, h3, h4⟩ := h
  exact ⟨A, c, h1, h2, row_on hb h3, h4⟩
set_option maxHeartbeats 1000000 in
theorem open_zero (ad : Addr) (c : Nat) (w : World) : Calls Try.prog 26 #[.slice (some ad) 0 c] w (OpenPost w []) := by
  obtain ⟨i0, hi0, hz0, hz1, hz2⟩ := info_parts Try.info5
  go_enter Try.func26, Try.ntmps26
  go_wp2_with (at_builtin; refine wpList_append_own _ rfl _ _ 24 rfl w.heap.size 5 i0 (.int .u8 0) 1 1 Try.underlying24 hi0 hz0 hz1 hz2 rfl (by decide) (.slice none 0 0) 0 [] rfl (World.ownsRow_nil _ _ _ _) ad 0 c [] rfl rfl (by simp) (by simp) (by simp [maxLen]) (by omega) (Nat.le_refl _) ?_)
  intro v' w1 hown hgrow hiff
  have hv : v' = .slice none 0 0 := hiff
  have hB : Below w.heap.size w w1 := (Below.refl _ _).grown hgrow (Nat.le_refl _) (by simp [Value.ownBlock])
  subst hv
  have HP : Hid (OpenPost w [] (.returned (.pointer (some ⟨w1.heap.size, 0, none⟩))) (w1.alloc (.cells #[.slice none 0 0] 71))) :=
    ⟨_, rfl, hB.size, ⟨none, 0, 0, by simp, rfl, Nat.le_refl _, by omega, fun o => by simp, .inl rfl⟩, bpush hB _⟩
  clear hown hgrow hiff hB
  go_wp2
  go_ret
  exact HP.out
/-- A reader of whatever bytes. -/
theorem open_all (A : Option Addr) (n c : Nat) (bs : List Int) (w : World) (hA : Row w A (bs.map (Value.int .u8))) (hn : n ≤ 1000000) (hz : n = bs.length) (hnil : A = none → c = 0) :
    Calls Try.prog 26 #[.slice A n c] w (OpenPost w bs) := by
  rcases Nat.eq_zero_or_pos n with h0 | h0
  · subst h0
    have hb : bs = [] := List.eq_nil_of_length_eq_zero hz.symm
    subst hb
    cases A with
    | none => rw [hnil rfl]; exact open_none w
    | some ad => exact open_zero ad c w
  · exact open_any A n c bs w hA hn hz h0
end Go.Proofs.Ytedldajlioeioaa
