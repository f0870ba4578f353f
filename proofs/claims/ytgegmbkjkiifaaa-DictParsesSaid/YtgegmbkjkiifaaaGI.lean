import Derived.Test.YtgegmbkjkiifaaaGH
namespace Go.Proofs.Ytgegmbkjkiifaaa
open Go.RowKit
set_option linter.unusedSimpArgs false
theorem rint_nil (lo hi : Int) (w : World) : Calls Try.prog 39 #[.pointer none, .int .i64 lo, .int .i64 hi] w fun e w' => e = .returned (.tuple #[.int .i64 0, .int .i64 1]) ∧ w = w' := by
  go_enter Try.func39, Try.ntmps39
  go_wp2
  go_ret2
  exact ⟨rfl, rfl⟩
theorem rtext_nil (hi : Int) (w : World) : Calls Try.prog 40 #[.pointer none, .int .i64 hi] w fun e w' => e = .returned (.tuple #[.string ⟨#[]⟩, .int .i64 1]) ∧ w = w' := by
  go_enter Try.func40, Try.ntmps40
  go_wp2
  go_ret2
  exact ⟨rfl, rfl⟩
theorem al1 : ([] : List Int) ++ encV (-150) = [130, 43] := by decide +kernel
theorem al2 : [130, 43] ++ encV ((⟨#[104, 105]⟩ : ByteArray).size) ++ sB ⟨#[104, 105]⟩ = [130, 43, 4, 104, 105] := by decide +kernel
theorem al3 : numP [130, 43, 4, 104, 105] = (-150, 2) := by decide +kernel
theorem al4 : numP [4, 104, 105] = (((2 : Nat) : Int), 1) := by decide +kernel
theorem bytes5 : bytes [130, 43, 4, 104, 105] := by intro x hx; simp at hx; omega
theorem bytes3 : bytes [4, 104, 105] := by intro x hx; simp at hx; omega
theorem int_of {A : Option Addr} {n c : Nat} {bs : List Int} {v : Int} {xs : List Int} (h : bs ++ encV v = xs) (w : World) (hA : Row w A (bs.map (Value.int .u8))) (hn : n ≤ 1000000) (hz : n = bs.length) (hnc : n ≤ c) (v1 : -9223372036854775808 ≤ v) (v2 : v ≤ 9223372036854775807) :
    Calls Try.prog 33 #[.slice A n c, .int .i64 v] w (MadeB w xs) := by subst h; exact int_any A n c bs v w hA hn hz hnc v1 v2
theorem text_of {A : Option Addr} {n c : Nat} {bs : List Int} {s : ByteArray} {xs : List Int} (h : bs ++ encV s.size ++ sB s = xs) (w : World) (hA : Row w A (bs.map (Value.int .u8))) (hn : n ≤ 1000000) (hz : n = bs.length) (hnc : n ≤ c) (hs : s.size ≤ 1000000) :
    Calls Try.prog 35 #[.slice A n c, .string s] w (MadeB w xs) := by subst h; exact text_any A n c bs s w hA hn hz hnc hs
theorem MadeB.row {w w' : World} {xs : List Int} {g cap : Nat} (h : w'.ownsRow w.heap.size 5 1 (.slice (some ⟨g, 0, none⟩) xs.length cap) xs.length (xs.map (Value.int .u8))) : Row w' (some ⟨g, 0, none⟩) (xs.map (Value.int .u8)) := by
  rcases Nat.eq_zero_or_pos xs.length with h0 | h0
  · have := List.eq_nil_of_length_eq_zero h0; subst this; exact .inl rfl
  · obtain ⟨g', cap', he, _, hr⟩ := Row.of_own h h0
    cases he; exact hr
theorem grown_cell {w w' : World} {rb b o : Nat} {v : Value} (hg : w.grownBy w' (some rb)) (hb : b ≠ rb) (h : w.cell? ⟨b, o, none⟩ = some v) : w'.cell? ⟨b, o, none⟩ = some v :=
  (World.cell?_of_block (a := ⟨b, o, none⟩) (hg.block b (lt_of_cell h) (fun e => hb (by injection e)))).trans h
theorem grown_below {w0 w w' : World} {rb : Nat} (hg : w.grownBy w' (some rb)) (hB : Below w0.heap.size w0 w) (hr : w0.heap.size ≤ rb) : Below w0.heap.size w0 w' :=
  hB.grown hg hB.size (fun k hk => by cases hk; exact hr)
end Go.Proofs.Ytgegmbkjkiifaaa
