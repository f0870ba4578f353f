import Derived.Test.YtmeheaapfdldeaaH
namespace Go.Proofs.Ytmeheaapfdldeaa
open Go.RowKit
set_option linter.unusedSimpArgs false
theorem left_any (rb : Nat) (bs : List Int) (w : World) (hR : Rd w rb bs) : Calls Try.prog 26 #[.pointer (some ⟨rb, 0, none⟩)] w fun e w' => e = .returned (.int .i64 bs.length) ∧ w = w' := by
  obtain ⟨A, n, c, h1, h2, h3, h4, h5, h6⟩ := hR
  rw [← h2]
  clear h2 h5 h6
  go_enter Try.func26, Try.ntmps26
  go_wp2
  go_ret
  exact ⟨rfl, rfl⟩
theorem left_nil (w : World) : Calls Try.prog 26 #[.pointer none] w fun e w' => e = .returned (.int .i64 0) ∧ w = w' := by
  go_enter Try.func26, Try.ntmps26
  go_wp2
  go_ret
  exact ⟨rfl, rfl⟩
theorem rint_nil (lo hi : Int) (w : World) : Calls Try.prog 20 #[.pointer none, .int .i64 lo, .int .i64 hi] w fun e w' => e = .returned (.tuple #[.int .i64 0, .int .i64 1]) ∧ w = w' := by
  go_enter Try.func20, Try.ntmps20
  go_wp2
  go_ret2
  exact ⟨rfl, rfl⟩
theorem rtext_nil (hi : Int) (w : World) : Calls Try.prog 22 #[.pointer none, .int .i64 hi] w fun e w' => e = .returned (.tuple #[.string ⟨#[]⟩, .int .i64 1]) ∧ w = w' := by
  go_enter Try.func22, Try.ntmps22
  go_wp2
  go_ret2
  exact ⟨rfl, rfl⟩
theorem rbytes_nil (n : Int) (w : World) : Calls Try.prog 24 #[.pointer none, .int .i64 n] w fun e w' => e = .returned (.tuple #[.slice none 0 0, .int .i64 1]) ∧ w = w' := by
  go_enter Try.func24, Try.ntmps24
  go_wp2
  go_ret2
  exact ⟨rfl, rfl⟩
theorem al1 : ([] : List Int) ++ encV (-150) = [130, 43] := by decide +kernel
theorem al2 : [130, 43] ++ encV ((⟨#[104, 105]⟩ : ByteArray).size) ++ sB ⟨#[104, 105]⟩ = [130, 43, 4, 104, 105] := by decide +kernel
theorem al3 : numP [130, 43, 4, 104, 105] = (-150, 2) := by decide +kernel
theorem al4 : numP [4, 104, 105] = (((2 : Nat) : Int), 1) := by decide +kernel
theorem bytes5 : bytes [130, 43, 4, 104, 105] := by intro x hx; simp at hx; omega
theorem bytes3 : bytes [4, 104, 105] := by intro x hx; simp at hx; omega
theorem int_of {A : Option Addr} {n c : Nat} {bs : List Int} {v : Int} {xs : List Int} (h : bs ++ encV v = xs) (w : World) (hA : Row w A (bs.map (Value.int .u8))) (hn : n ≤ 1000000) (hz : n = bs.length) (hnc : n ≤ c) (v1 : -9223372036854775808 ≤ v) (v2 : v ≤ 9223372036854775807) :
    Calls Try.prog 15 #[.slice A n c, .int .i64 v] w (MadeB w xs) := by subst h; exact int_any A n c bs v w hA hn hz hnc v1 v2
theorem text_of {A : Option Addr} {n c : Nat} {bs : List Int} {s : ByteArray} {xs : List Int} (h : bs ++ encV s.size ++ sB s = xs) (w : World) (hA : Row w A (bs.map (Value.int .u8))) (hn : n ≤ 1000000) (hz : n = bs.length) (hnc : n ≤ c) (hs : s.size ≤ 1000000) :
    Calls Try.prog 16 #[.slice A n c, .string s] w (MadeB w xs) := by subst h; exact text_any A n c bs s w hA hn hz hnc hs
theorem MadeB.row {w w' : World} {xs : List Int} {g cap : Nat} (h : w'.ownsRow w.heap.size 5 1 (.slice (some ⟨g, 0, none⟩) xs.length cap) xs.length (xs.map (Value.int .u8))) : Row w' (some ⟨g, 0, none⟩) (xs.map (Value.int .u8)) := by
  rcases Nat.eq_zero_or_pos xs.length with h0 | h0
  · have := List.eq_nil_of_length_eq_zero h0; subst this; exact .inl rfl
  · obtain ⟨g', cap', he, _, hr⟩ := Row.of_own h h0
    cases he; exact hr
theorem grown_cell {w w' : World} {rb b o : Nat} {v : Value} (hg : w.grownBy w' (some rb)) (hb : b ≠ rb) (h : w.cell? ⟨b, o, none⟩ = some v) : w'.cell? ⟨b, o, none⟩ = some v :=
  (World.cell?_of_block (a := ⟨b, o, none⟩) (hg.block b (lt_of_cell h) (fun e => hb (by injection e)))).trans h
theorem grown_below {w0 w w' : World} {rb : Nat} (hg : w.grownBy w' (some rb)) (hB : Below w0.heap.size w0 w) (hr : w0.heap.size ≤ rb) : Below w0.heap.size w0 w' :=
  hB.grown hg hB.size (fun k hk => by cases hk; exact hr)
set_option maxHeartbeats 1000000 in
theorem alive_any (w : World) : Calls Try.prog 10 #[] w fun e w' => e = .returned (.bool true) ∧ Below w.heap.size w w' := by
  go_enter Try.func10, Try.ntmps10
  go_wp2_with fail
  refine (int_of (bs := []) (n := 0) (c := 0) al1 _ (.inl rfl) (by omega) rfl (by omega) (by omega) (by omega)).mono ?_
  rintro e w1 ⟨g, cap, rfl, hcap, hown, hB⟩
  have hrow := MadeB.row hown
  clear hown
  go_wp2_with fail
  refine (text_of (bs := [130, 43]) al2 _ hrow (by simp) rfl hcap (by decide)).mono ?_
  rintro e w2 ⟨g2, cap2, rfl, hcap2, hown2, hB2⟩
  replace hB := bthen hB hB2
  clear hrow hB2 hcap
  have hrow := MadeB.row hown2
  clear hown2
  go_wp2_with fail
  refine (open_any (bs := [130, 43, 4, 104, 105]) _ _ _ _ hrow (by simp) rfl (by simp)).mono ?_
  rintro e w3 ⟨rb, rfl, hrb, hR, hB3⟩
  have hrow3 := hrow.keep (Nat.le_refl _) hB3
  have hrb0 : w.heap.size ≤ rb := Nat.le_trans hB.size hrb
  have hgl : g2 ≠ rb := by
    rcases hrow with h | ⟨b, off, he, hc⟩
    · simp at h
    · cases he; have := lt_of_cell (hc 0 _ rfl); omega
  replace hB := bthen hB hB3
  clear hB3 hrow
  go_wp2_with fail
  refine (rint_good rb _ _ _ _ hR bytes5 _ _ al3 (by omega) (by omega) (by omega)).mono ?_
  rintro e w4 ⟨rfl, hR4, hg4⟩
  go_wp2_with fail
  refine (rtext_good rb [4, 104, 105] _ _ hR4 bytes3 2 1 al4 (by omega) (by omega) (by simp)).mono ?_
  rintro e w5 ⟨rfl, hR5, hg5⟩
  have hc0 : w5.cell? ⟨g2, 0, none⟩ = some (.int .u8 130) ∧ w5.cell? ⟨g2, 1, none⟩ = some (.int .u8 43) := by
    rcases hrow3 with h | ⟨b, off, he, hc⟩
    · simp at h
    · cases he
      exact ⟨grown_cell hg5 hgl (grown_cell hg4 hgl (hc 0 _ rfl)), grown_cell hg5 hgl (grown_cell hg4 hgl (hc 1 _ rfl))⟩
  obtain ⟨hc0, hc1⟩ := hc0
  have hB5 := grown_below hg5 (grown_below hg4 hB hrb0) hrb0
  rw [show strOfNums (([4, 104, 105] : List Int).drop 1 |>.take 2) = ⟨#[104, 105]⟩ by decide +kernel]
  clear hrow3 hg4 hg5 hB hR hR4 hcap2
  go_wp2_with (go_at_call 26; refine (left_any rb _ _ hR5).mono ?_; rintro e w6 ⟨rfl, rfl⟩)
  go_ret
  exact ⟨rfl, hB5⟩
end Go.Proofs.Ytmeheaapfdldeaa
