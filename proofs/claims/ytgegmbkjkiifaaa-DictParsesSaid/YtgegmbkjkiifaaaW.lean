/- The reader ahead of its bytes: a text that fails; opened on whatever bytes; what Parse reads, as a function. -/
import Derived.Test.YtgegmbkjkiifaaaU
namespace Go.Proofs.Ytgegmbkjkiifaaa
open Go.RowKit Go.Lib
set_option linter.unusedSimpArgs false
set_option linter.unusedVariables false
set_option maxRecDepth 100000 in
set_option maxHeartbeats 1000000 in
theorem rtextq_bad (rb : Nat) (bs : List Int) (hi : Int) (w : World) (hR : Rq w rb bs) (hb : bytes bs) (v : Int) (l : Nat) (hp : numP bs = (v, l)) (hbad : l = 0 ∨ v < 0 ∨ hi < v ∨ (bs.length : Int) - l < v) :
    Calls Try.prog 40 #[.pointer (some ⟨rb, 0, none⟩), .int .i64 hi] w (ReadPq w rb (.string ByteArray.empty) 11 bs) := by
  have hR' := Lib.hid hR
  obtain ⟨A, n, c, h1, h2, h3, h4, h5, h6⟩ := hR
  have H2 := Lib.hid h2
  have HP := Lib.hid hp
  have HB := Lib.hid hb
  have hrow : Row w A (bs.map (Value.int .u8)) := by
    rcases h6 with rfl | ⟨b, off, h7, h8, h9⟩
    · exact .inl rfl
    · exact .inr ⟨b, off, h7, h9⟩
  rw [← h2] at hbad
  have hll : l ≤ n := by rw [h2]; exact (numP_len hp).1
  have hvb := (numP_len hp).2.2
  have hsub : IntKind.i64.wrap ((n : Int) - (l : Int)) = ((n - l : Nat) : Int) := by rw [IntWalk.i64_in _ (by omega)]; omega
  obtain ⟨D, hD⟩ : ∃ D, D = n - l := ⟨_, rfl⟩
  rw [← hD] at hsub
  clear h2 hp hb h6
  go_enter Try.func40, Try.ntmps40
  go_wp2_with fail
  refine (number_any A n c bs w hrow (by omega) H2.out HB.out v l HP.out).mono ?_
  rintro e w1 ⟨rfl, rfl⟩
  by_cases hl : l = 0
  · subst hl
    go_wp2
    go_ret2
    exact ⟨rfl, hR'.out, grown_refl _ _⟩
  · have hl' : (1 : Int) ≤ (l : Int) := by omega
    have hl2 : ((l : Int) == 0) = false := by simp; omega
    by_cases h7 : v < 0
    · go_wp2
      go_ret2
      exact ⟨rfl, hR'.out, grown_refl _ _⟩
    · by_cases h8 : hi < v
      · go_wp2
        go_ret2
        exact ⟨rfl, hR'.out, grown_refl _ _⟩
      · have h9 : (D : Int) < v := by omega
        go_wp2
        go_ret2
        exact ⟨rfl, hR'.out, grown_refl _ _⟩
set_option maxRecDepth 100000 in
set_option maxHeartbeats 1000000 in
theorem openq_zero (ad : Addr) (c : Nat) (w : World) : Calls Try.prog 38 #[.slice (some ad) 0 c] w (OpenPq w []) := by
  obtain ⟨i0, hi0, hz0, hz1, hz2⟩ := info_parts Try.info5
  go_enter Try.func38, Try.ntmps38
  go_wp2_with (at_builtin; refine wpList_append_own _ rfl _ _ 40 rfl w.heap.size 5 i0 (.int .u8 0) 1 1 Try.underlying40 hi0 hz0 hz1 hz2 rfl (by decide) (.slice none 0 0) 0 [] rfl (World.ownsRow_nil _ _ _ _) ad 0 c [] rfl rfl (by simp) (by simp) (by simp [maxLen]) (by omega) (Nat.le_refl _) ?_)
  intro v' w1 hown hgrow hiff
  have hv : v' = .slice none 0 0 := hiff
  have hB : Below w.heap.size w w1 := (Below.refl _ _).grown hgrow (Nat.le_refl _) (by simp [Value.ownBlock])
  subst hv
  have HP : Hid (OpenPq w [] (.returned (.pointer (some ⟨w1.heap.size, 0, none⟩))) (w1.alloc (.cells #[.slice none 0 0] 87))) :=
    ⟨_, rfl, hB.size, ⟨none, 0, 0, by simp, rfl, Nat.le_refl _, by omega, fun o => by simp, .inl rfl⟩, bpush hB _⟩
  clear hown hgrow hiff hB
  go_wp2
  go_ret
  exact HP.out
/-- A reader of whatever bytes. -/
theorem openq_all (A : Option Addr) (n c : Nat) (bs : List Int) (w : World) (hA : Row w A (bs.map (Value.int .u8))) (hn : n ≤ 1000000) (hz : n = bs.length) (hnil : A = none → c = 0) :
    Calls Try.prog 38 #[.slice A n c] w (OpenPq w bs) := by
  rcases Nat.eq_zero_or_pos n with h0 | h0
  · subst h0
    have hb : bs = [] := List.eq_nil_of_length_eq_zero hz.symm
    subst hb
    cases A with
    | none => rw [hnil rfl]; exact openq_none w
    | some ad => exact openq_zero ad c w
  · exact openq_any A n c bs w hA hn hz h0
/-- One text of a dictionary's bytes: the text and what is left. -/
def readT (prev : ByteArray) (bs : List Int) : Option (ByteArray × List Int) :=
  let p := numP bs
  if p.2 = 0 ∨ p.1 < 0 ∨ (prev.size : Int) < p.1 then none
  else
    let cs := bs.drop p.2
    let q := numP cs
    if q.2 = 0 ∨ q.1 < 0 ∨ 24 < q.1 ∨ (cs.length : Int) - q.2 < q.1 then none
    else some (prev.extract 0 p.1.toNat ++ strOfNums ((cs.drop q.2).take q.1.toNat), cs.drop (q.2 + q.1.toNat))
/-- As many texts as are asked for, each beginning as the one before it. -/
def readL : Nat → ByteArray → List Int → Option (List ByteArray × List Int)
  | 0, _, bs => some ([], bs)
  | k + 1, prev, bs => match readT prev bs with
    | none => none
    | some (s, cs) => match readL k s cs with
      | none => none
      | some (L, ds) => some (s :: L, ds)
/-- The texts that Parse has before it builds. -/
def readD (bs : List Int) : Option (List ByteArray × List Int) :=
  let p := numP bs
  if p.2 = 0 ∨ p.1 < 0 ∨ 65536 < p.1 then none else readL p.1.toNat ⟨#[]⟩ (bs.drop p.2)
theorem lastT_cons (a s : ByteArray) (L : List ByteArray) : lastT a (s :: L) = lastT s L := by simp [lastT, List.getLast?_cons]
theorem readL_snoc : ∀ (k : Nat) (prev : ByteArray) (bs : List Int) (L : List ByteArray) (ds : List Int) (s : ByteArray) (es : List Int), readL k prev bs = some (L, ds) → readT (lastT prev L) ds = some (s, es) → readL (k + 1) prev bs = some (L ++ [s], es) := by
  intro k
  induction k with
  | zero =>
    intro prev bs L ds s es h1 h2
    simp [readL] at h1
    obtain ⟨rfl, rfl⟩ := h1
    simp only [readL]
    have h3 : readT prev bs = some (s, es) := h2
    rw [h3]; rfl
  | succ k ih =>
    intro prev bs L ds s es h1 h2
    rw [readL] at h1
    split at h1
    · cases h1
    · rename_i t cs ht
      split at h1
      · cases h1
      · rename_i M gs hM
        simp at h1
        obtain ⟨rfl, rfl⟩ := h1
        have h3 := ih t cs M gs s es hM (by rw [lastT_cons] at h2; exact h2)
        rw [readL, ht]
        simp only [h3]
        rfl
end Go.Proofs.Ytgegmbkjkiifaaa
