/- The document's reader: T. -/
import Derived.Test.YtgegmbkjkiifaaaZD
namespace Go.Proofs.Ytgegmbkjkiifaaa
open Go.RowKit
set_option linter.unusedSimpArgs false
set_option linter.unusedVariables false
/-- What T answers, and where the reader is then. -/
def Tx (hi : Int) (bs : List Int) (I : Nat) (bad : Bool) (s : ByteArray) (J : Nat) (b : Bool) : Prop :=
  (∃ l t : Nat, numP (bs.drop I) = ((t : Int), l) ∧ 0 < l ∧ (t : Int) ≤ hi ∧ I + l + t ≤ bs.length ∧ s = strOfNums ((bs.drop (I + l)).take t) ∧ J = I + l + t ∧ b = bad) ∨
  (((numP (bs.drop I)).2 = 0 ∨ (numP (bs.drop I)).1 < 0 ∨ hi < (numP (bs.drop I)).1 ∨ (bs.length : Int) - (I + (numP (bs.drop I)).2 : Nat) < (numP (bs.drop I)).1) ∧ s = ByteArray.empty ∧ J = I ∧ b = true)
set_option maxRecDepth 100000 in
set_option maxHeartbeats 1000000 in
theorem reft_any (mb : Nat) (A : Option Addr) (n c I : Nat) (bad : Bool) (bs : List Int) (hi : Int) (w : World) (hB : Bx w mb (.slice A n c) I bad) (hA : RowX w mb A bs) (hnil : A = none → c = 0) (hnc : n ≤ c) (hn : n ≤ 1000000) (hz : n = bs.length) (hI : I ≤ n) (hb : bytes bs) :
    Calls Try.prog 43 #[.pointer (some ⟨mb, 0, none⟩), .int .i64 hi] w fun e w' => ∃ (s : ByteArray) (J : Nat) (b : Bool), Tx hi bs I bad s J b ∧ e = .returned (.string s) ∧ Bx w' mb (.slice A n c) J b ∧ w.grownBy w' (some mb) := by
  obtain ⟨v, l, hp⟩ : ∃ v l, numP (bs.drop I) = (v, l) := ⟨_, _, rfl⟩
  have hlen := numP_len hp
  rw [List.length_drop] at hlen
  have HP := Lib.hid hp
  have HB := Lib.hid hB
  have HA := Lib.hid hA
  have HZ := Lib.hid hz
  have HBB := Lib.hid hb
  have HNIL := Lib.hid hnil
  by_cases hbad : l = 0 ∨ v < 0 ∨ hi < v
  · have HBAD := Lib.hid hbad
    have HT := Lib.hid (show Tx hi bs I bad ByteArray.empty I true from .inr ⟨by rw [HP.out]; rcases HBAD.out with h | h | h <;> simp [h], rfl, rfl, rfl⟩)
    clear hp hB hA hz hb hbad hnil
    go_enter Try.func43, Try.ntmps43
    go_wp2_with fail
    refine (reftext_bad1 mb A n c I bad bs hi w HB.out HA.out hn HZ.out hI HBB.out v l HP.out HBAD.out).mono ?_
    rintro e w1 ⟨rfl, h1, h2⟩
    go_wp2
    go_ret
    exact ⟨_, I, true, HT.out, rfl, h1, h2⟩
  · obtain ⟨t, rfl⟩ : ∃ t : Nat, v = (t : Int) := ⟨v.toNat, by omega⟩
    have hl0 : 0 < l := by omega
    have hv2 : (t : Int) ≤ hi := by omega
    by_cases hfit : I + l + t ≤ n
    · have HT := Lib.hid (show Tx hi bs I bad (strOfNums ((bs.drop (I + l)).take t)) (I + l + t) bad from .inl ⟨l, t, HP.out, hl0, hv2, by rw [← HZ.out]; exact hfit, rfl, rfl, rfl⟩)
      clear hp hB hA hz hb hbad hnil
      go_enter Try.func43, Try.ntmps43
      go_wp2_with fail
      refine (reftext_good mb A n c I bad bs hi w HB.out HA.out HNIL.out hnc hn HZ.out hI HBB.out t l HP.out hl0 hv2 hfit).mono ?_
      rintro e w1 ⟨rfl, h1, h2⟩
      go_wp2
      go_ret
      exact ⟨_, _, bad, HT.out, rfl, h1, h2⟩
    · have hfit2 : (n : Int) - (I + l : Nat) < (t : Int) := by omega
      have HT := Lib.hid (show Tx hi bs I bad ByteArray.empty I true from .inr ⟨by rw [HP.out]; exact .inr (.inr (.inr (by rw [← HZ.out]; exact hfit2))), rfl, rfl, rfl⟩)
      clear hp hB hA hz hb hbad hfit hnil
      go_enter Try.func43, Try.ntmps43
      go_wp2_with fail
      refine (reftext_bad2 mb A n c I bad bs hi w HB.out HA.out hn HZ.out hI HBB.out t l HP.out hl0 (by omega) hv2 hfit2).mono ?_
      rintro e w1 ⟨rfl, h1, h2⟩
      go_wp2
      go_ret
      exact ⟨_, I, true, HT.out, rfl, h1, h2⟩
end Go.Proofs.Ytgegmbkjkiifaaa
