/- Pairs: what both readers do. -/
import Derived.Test.YtmeheaapfdldeaaZB
import Derived.Test.YtmeheaapfdldeaaZC
namespace Go.Proofs.Ytmeheaapfdldeaa
open Go.RowKit
set_option linter.unusedSimpArgs false
set_option linter.unusedVariables false
theorem Rd.far {w w' : World} {rb mb : Nat} {bs : List Int} {A0 : Option Addr} {n0 c0 I : Nat} {bad : Bool} (h : Rd w rb bs) (hx : Bx w mb (.slice A0 n0 c0) I bad) (hg : w.grownBy w' (some mb)) (hne : rb ≠ mb) : Rd w' rb bs := by
  have hlt := h.lt
  obtain ⟨A, n, c, h1, h2, h3, h4, h5, h6⟩ := h
  refine ⟨A, n, c, hg.cell h1 (by simpa using hne), h2, h3, h4, fun o => (hg.frozen_far _ hlt (by simpa using hne)).trans (h5 o), ?_⟩
  rcases h6 with h6 | ⟨b, off, h7, h8, h9⟩
  · exact .inl h6
  · cases bs with
    | nil => exact .inl rfl
    | cons x xs =>
      have hb : b ≠ mb := by
        rintro rfl
        have h0 := h9 0 (.int .u8 x) rfl
        rw [Nat.add_zero] at h0
        obtain ⟨x0, x1, x2, x3⟩ := hx
        match off, h0 with
        | 0, h0 => rw [x0] at h0; cases h0
        | 1, h0 => rw [x1] at h0; cases h0
        | 2, h0 => rw [x2] at h0; cases h0
        | k + 3, h0 => rw [(x3 (k + 3)).2 (by omega)] at h0; cases h0
      exact .inr ⟨b, off, h7, h8, fun j u hu => hg.cell (h9 j u hu) (by simpa using hb)⟩
theorem drop_bytes {bs : List Int} (hb : bytes bs) (k : Nat) : bytes (bs.drop k) := fun x hx => hb x (List.mem_of_mem_drop hx)
theorem int_pair (bs : List Int) (hb : bytes bs) (hn : bs.length ≤ 1000000) (I : Nat) (hI : I ≤ bs.length) (lo hi : Int) : ∃ (v err : Int) (J : Nat), J ≤ bs.length ∧
    (∀ rb w, Rd w rb (bs.drop I) → Calls Try.prog 20 #[.pointer (some ⟨rb, 0, none⟩), .int .i64 lo, .int .i64 hi] w (ReadPost w rb (.int .i64 v) err (bs.drop J))) ∧
    (∀ mb A c bad w, Bx w mb (.slice A bs.length c) I bad → RowX w mb A bs → Calls Try.prog 21 #[.pointer (some ⟨mb, 0, none⟩), .int .i64 lo, .int .i64 hi] w (RefPost w mb (.slice A bs.length c) (.int .i64 v) err J)) := by
  obtain ⟨⟨v, l⟩, hp⟩ : ∃ p, numP (bs.drop I) = p := ⟨_, rfl⟩
  have hll := (numP_len hp).1
  rw [List.length_drop] at hll
  by_cases hbad : l = 0 ∨ v < lo ∨ hi < v
  · exact ⟨0, 11, I, hI, fun rb w hR => rint_bad rb _ lo hi w hR (drop_bytes hb I) v l hp hbad, fun mb A c bad w hB hA => refrint_bad mb A _ c I bad bs lo hi w hB hA.row hn rfl hI hb v l hp hbad⟩
  · refine ⟨v, 0, I + l, by omega, fun rb w hR => ?_, fun mb A c bad w hB hA => refrint_good mb A _ c I bad bs lo hi w hB hA.row hn rfl hI hb v l hp (by omega) (by omega) (by omega)⟩
    have := rint_good rb _ lo hi w hR (drop_bytes hb I) v l hp (by omega) (by omega) (by omega)
    rw [List.drop_drop] at this
    exact this
theorem text_pair (bs : List Int) (hb : bytes bs) (hn : bs.length ≤ 1000000) (I : Nat) (hI : I ≤ bs.length) (hi : Int) : ∃ (s : ByteArray) (err : Int) (J : Nat), J ≤ bs.length ∧
    (∀ rb w, Rd w rb (bs.drop I) → Calls Try.prog 22 #[.pointer (some ⟨rb, 0, none⟩), .int .i64 hi] w (ReadPost w rb (.string s) err (bs.drop J))) ∧
    (∀ mb A c bad w, Bx w mb (.slice A bs.length c) I bad → RowX w mb A bs → (A = none → c = 0) → bs.length ≤ c → Calls Try.prog 23 #[.pointer (some ⟨mb, 0, none⟩), .int .i64 hi] w (RefPost w mb (.slice A bs.length c) (.string s) err J)) := by
  obtain ⟨⟨v, l⟩, hp⟩ : ∃ p, numP (bs.drop I) = p := ⟨_, rfl⟩
  have hll := (numP_len hp).1
  rw [List.length_drop] at hll
  by_cases hbad : l = 0 ∨ v < 0 ∨ hi < v
  · exact ⟨ByteArray.empty, 11, I, hI, fun rb w hR => rtext_bad rb _ hi w hR (drop_bytes hb I) v l hp (by omega), fun mb A c bad w hB hA _ _ => reftext_bad1 mb A _ c I bad bs hi w hB hA hn rfl hI hb v l hp hbad⟩
  · by_cases hlen : (bs.length : Int) - (I + l : Nat) < v
    · exact ⟨ByteArray.empty, 11, I, hI, fun rb w hR => rtext_bad rb _ hi w hR (drop_bytes hb I) v l hp (by rw [List.length_drop]; omega), fun mb A c bad w hB hA _ _ => reftext_bad2 mb A _ c I bad bs hi w hB hA hn rfl hI hb v l hp (by omega) (by omega) (by omega) hlen⟩
    · obtain ⟨t, rfl⟩ : ∃ t : Nat, v = (t : Int) := ⟨v.toNat, by omega⟩
      refine ⟨strOfNums ((bs.drop (I + l)).take t), 0, I + l + t, by omega, fun rb w hR => ?_, fun mb A c bad w hB hA h1 h2 => reftext_good mb A _ c I bad bs hi w hB hA h1 h2 hn rfl hI hb t l hp (by omega) (by omega) (by omega)⟩
      have := rtext_good rb _ hi w hR (drop_bytes hb I) t l hp (by omega) (by omega) (by rw [List.length_drop]; omega)
      rw [List.drop_drop, List.drop_drop, ← Nat.add_assoc] at this
      exact this
theorem bytes_pair (bs : List Int) (hb : bytes bs) (hn : bs.length ≤ 1000000) (I : Nat) (hI : I ≤ bs.length) (m : Int) : ∃ (xs : List Int) (err : Int) (J : Nat), J ≤ bs.length ∧
    (∀ rb w, Rd w rb (bs.drop I) → Calls Try.prog 24 #[.pointer (some ⟨rb, 0, none⟩), .int .i64 m] w fun e w' => ∃ v, ReadPost w rb v err (bs.drop J) e w' ∧ SVn w.heap.size w' v xs) ∧
    (∀ mb A c bad w, Bx w mb (.slice A bs.length c) I bad → RowX w mb A bs → (A = none → c = 0) → bs.length ≤ c → Calls Try.prog 25 #[.pointer (some ⟨mb, 0, none⟩), .int .i64 m] w fun e w' => ∃ v, RefPost w mb (.slice A bs.length c) v err J e w' ∧ SV w' v xs) := by
  by_cases hbad : m < 0 ∨ (bs.length : Int) - I < m
  · exact ⟨[], 11, I, hI, fun rb w hR => (rbytes_bad rb _ m w hR (by rw [List.length_drop]; omega)).mono fun e w' h => ⟨_, h, SVn.nil _ _⟩,
      fun mb A c bad w hB hA _ _ => (refbytes_bad mb A _ c I bad m w hB hn hI hbad).mono fun e w' h => ⟨_, h, (SVn.nil 0 _).1⟩⟩
  · obtain ⟨M, rfl⟩ : ∃ M : Nat, m = (M : Int) := ⟨m.toNat, by omega⟩
    refine ⟨(bs.drop I).take M, 0, I + M, by omega, fun rb w hR => ?_, fun mb A c bad w hB hA h1 h2 => refbytes_good mb A _ c I M bad bs w hB hA h1 h2 hn rfl (by omega)⟩
    rcases Nat.eq_zero_or_pos M with h0 | h0
    · subst h0
      exact (rbytes_zero rb _ w hR).mono fun e w' h => ⟨_, h, SVn.nil _ _⟩
    · have := rbytes_good rb _ M w hR (by rw [List.length_drop]; omega) h0
      rw [List.drop_drop] at this
      exact this
theorem rowx_of {w wr : World} {mb : Nat} {A : Option Addr} {bs : List Int} (hA : Row w A (bs.map (Value.int .u8))) (hB : Below w.heap.size w wr) (hmb : w.heap.size ≤ mb) : RowX wr mb A bs := by
  rcases hA with h | ⟨b, off, rfl, hc⟩
  · exact .inl (by simpa using h)
  · cases bs with
    | nil => exact .inl rfl
    | cons x xs =>
      have hlt := lt_of_cell (hc 0 (.int .u8 x) rfl)
      exact .inr ⟨b, off, rfl, by omega, fun j u hu => cell_on hB (hc j u hu)⟩
end Go.Proofs.Ytmeheaapfdldeaa
