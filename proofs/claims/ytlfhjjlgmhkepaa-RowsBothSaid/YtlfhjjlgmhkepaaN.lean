/- Check. -/
import Derived.Test.YtlfhjjlgmhkepaaM
namespace Go.Proofs.Ytlfhjjlgmhkepaa
open Go.RowKit
set_option linter.unusedSimpArgs false
set_option linter.unusedVariables false
set_option maxRecDepth 100000 in
set_option maxHeartbeats 1000000 in
theorem hasno_any (A : Option Addr) (n c : Nat) (L : List ByteArray) (w : World) (hA : Row w A (texts L)) (hz : n = L.length) (hn : n ≤ 9223372036854775807) (hL : ∀ s ∈ L, s.size ≤ 9223372036854775807) (r : Bool) (hr : r = true ↔ ∃ s ∈ L, ¬ valP s) :
    Calls Try.prog 38 #[.slice A n c, .func (.func 59) #[] #[]] w fun e w' => e = .returned (.bool r) ∧ Below w.heap.size w w' := by
  have HA := Lib.hid hA
  have HZ := Lib.hid hz
  have HR := Lib.hid hr
  clear hA hz hr
  go_enter Try.func38, Try.ntmps38
  go_wp2_with fail
  refine (anyval_any A n c L _ HA.out HZ.out hn hL r HR.out).mono ?_
  rintro e w1 ⟨⟨v, rfl, hv1, hv2⟩, hB⟩
  cases r with
  | true =>
    have h0 := hv1 rfl
    have d0 : decide (0 ≤ v) = true := by simpa using h0
    clear hv1 hv2
    go_wp2_with fail
    go_ret
    exact ⟨rfl, hB⟩
  | false =>
    obtain rfl : v = -1 := hv2 rfl
    clear hv1 hv2
    go_wp2_with fail
    go_ret
    exact ⟨rfl, hB⟩
set_option maxRecDepth 100000 in
set_option maxHeartbeats 1000000 in
theorem hasgreat_any (A : Option Addr) (n c : Nat) (L : List Int) (w : World) (hA : Row w A (L.map (Value.int .i64))) (hz : n = L.length) (hn : n ≤ 9223372036854775807) (r : Bool) (hr : r = true ↔ ∃ x ∈ L, greatZ x) :
    Calls Try.prog 61 #[.slice A n c, .func (.func 60) #[] #[]] w fun e w' => e = .returned (.bool r) ∧ Below w.heap.size w w' := by
  have HA := Lib.hid hA
  have HZ := Lib.hid hz
  have HR := Lib.hid hr
  clear hA hz hr
  go_enter Try.func61, Try.ntmps61
  go_wp2_with fail
  refine (anygreat_any A n c L _ HA.out HZ.out hn r HR.out).mono ?_
  rintro e w1 ⟨⟨v, rfl, hv1, hv2⟩, hB⟩
  cases r with
  | true =>
    have h0 := hv1 rfl
    have d0 : decide (0 ≤ v) = true := by simpa using h0
    clear hv1 hv2
    go_wp2_with fail
    go_ret
    exact ⟨rfl, hB⟩
  | false =>
    obtain rfl : v = -1 := hv2 rfl
    clear hv1 hv2
    go_wp2_with fail
    go_ret
    exact ⟨rfl, hB⟩
/-- What Check answers. -/
def CheckIs (L M D : List ByteArray) (X : List Int) (t v : Int) : Prop :=
  (D.length ≠ L.length ∧ v = 101) ∨ (D.length = L.length ∧ X.length ≠ M.length ∧ v = 101) ∨
  (D.length = L.length ∧ X.length = M.length ∧ (((∃ s ∈ D, ¬ valP s) ∧ v = 102) ∨ ((∀ s ∈ D, valP s) ∧ (∃ x ∈ X, greatZ x) ∧ v = 102) ∨
    ((∀ s ∈ D, valP s) ∧ (∀ x ∈ X, ¬ greatZ x) ∧ ((t < 0 ∧ v = 181) ∨ (1099511627776 < t ∧ v = 181) ∨ (0 ≤ t ∧ t ≤ 1099511627776 ∧ v = 0)))))
theorem check_ex (L M D : List ByteArray) (X : List Int) (t : Int) : ∃ v, CheckIs L M D X t v := by
  by_cases h1 : D.length = L.length
  · by_cases h2 : X.length = M.length
    · by_cases h3 : ∃ s ∈ D, ¬ valP s
      · exact ⟨102, .inr (.inr ⟨h1, h2, .inl ⟨h3, rfl⟩⟩)⟩
      · have h3' : ∀ s ∈ D, valP s := fun s hs => Classical.byContradiction fun h => h3 ⟨s, hs, h⟩
        by_cases h4 : ∃ x ∈ X, greatZ x
        · exact ⟨102, .inr (.inr ⟨h1, h2, .inr (.inl ⟨h3', h4, rfl⟩)⟩)⟩
        · have h4' : ∀ x ∈ X, ¬ greatZ x := fun x hx h => h4 ⟨x, hx, h⟩
          by_cases h5 : t < 0
          · exact ⟨181, .inr (.inr ⟨h1, h2, .inr (.inr ⟨h3', h4', .inl ⟨h5, rfl⟩⟩)⟩)⟩
          · by_cases h6 : 1099511627776 < t
            · exact ⟨181, .inr (.inr ⟨h1, h2, .inr (.inr ⟨h3', h4', .inr (.inl ⟨h6, rfl⟩)⟩)⟩)⟩
            · exact ⟨0, .inr (.inr ⟨h1, h2, .inr (.inr ⟨h3', h4', .inr (.inr ⟨by omega, by omega, rfl⟩)⟩)⟩)⟩
    · exact ⟨101, .inr (.inl ⟨h1, h2, rfl⟩)⟩
  · exact ⟨101, .inl ⟨h1, rfl⟩⟩
theorem CheckIs.uniq {L M D : List ByteArray} {X : List Int} {t u v : Int} (h : CheckIs L M D X t u) (k : CheckIs L M D X t v) : u = v := by
  rcases h with ⟨a, rfl⟩ | ⟨a1, a2, rfl⟩ | ⟨a1, a2, h⟩
  · rcases k with ⟨_, rfl⟩ | ⟨b, _⟩ | ⟨b, _⟩
    · rfl
    · exact absurd b a
    · exact absurd b a
  · rcases k with ⟨b, _⟩ | ⟨_, _, rfl⟩ | ⟨_, b, _⟩
    · exact absurd a1 b
    · rfl
    · exact absurd b a2
  · rcases k with ⟨b, _⟩ | ⟨_, b, _⟩ | ⟨_, _, k⟩
    · exact absurd a1 b
    · exact absurd a2 b
    · rcases h with ⟨⟨s, hs, h⟩, rfl⟩ | ⟨a3, ⟨x, hx, h⟩, rfl⟩ | ⟨a3, a4, h⟩
      · rcases k with ⟨_, rfl⟩ | ⟨_, _, rfl⟩ | ⟨b, _⟩
        · rfl
        · rfl
        · exact absurd (b s hs) h
      · rcases k with ⟨_, rfl⟩ | ⟨_, _, rfl⟩ | ⟨_, b, _⟩
        · rfl
        · rfl
        · exact absurd h (b x hx)
      · rcases k with ⟨⟨s, hs, k⟩, _⟩ | ⟨_, ⟨x, hx, k⟩, _⟩ | ⟨_, _, k⟩
        · exact absurd (a3 s hs) k
        · exact absurd k (a4 x hx)
        · omega
set_option maxRecDepth 100000 in
set_option maxHeartbeats 4000000 in
theorem check_any (A B E F : Option Addr) (n c m d p q x y : Nat) (t : Int) (L M D : List ByteArray) (X : List Int) (w : World) (hE : Row w E (texts D)) (hF : Row w F (X.map (Value.int .i64))) (hn : n = L.length) (hm : m = M.length) (hp : p = D.length) (hx : x = X.length)
    (hD : ∀ s ∈ D, s.size ≤ 9223372036854775807) (hp2 : p ≤ 9223372036854775807) (hx2 : x ≤ 9223372036854775807) (v : Int) (hv : CheckIs L M D X t v) :
    Calls Try.prog 29 #[.agg #[.slice A n c, .slice B m d], .agg #[.int .i64 t, .slice E p q, .slice F x y]] w fun e w' => e = .returned (.int .i64 v) ∧ Below w.heap.size w w' := by
  have HE := Lib.hid hE
  have HF := Lib.hid hF
  have HD := Lib.hid hD
  have HN := Lib.hid hn
  have HM := Lib.hid hm
  have HP := Lib.hid hp
  have HX := Lib.hid hx
  clear hE hF hD hn hm hp hx
  have bel : ∀ o1 o2, Below w.heap.size w ((w.alloc o1).alloc o2) := fun o1 o2 => bthen (bpush (Below.refl _ _) _) (bpush (Below.refl _ _) _)
  rcases hv with ⟨h1, rfl⟩ | ⟨h1, h2, rfl⟩ | ⟨h1, h2, hv⟩
  · have d1 : ((p : Int) == (n : Int)) = false := by rw [beq_eq_false_iff_ne]; have := HN.out; have := HP.out; omega
    have d2 : ((p : Int) != (n : Int)) = true := by rw [bne, d1]; rfl
    clear h1
    go_enter Try.func29, Try.ntmps29
    go_wp2_with fail
    go_ret
    exact ⟨rfl, bel _ _⟩
  · obtain rfl : p = n := by have := HN.out; have := HP.out; omega
    have d1 : ((x : Int) == (m : Int)) = false := by rw [beq_eq_false_iff_ne]; have := HM.out; have := HX.out; omega
    have d2 : ((x : Int) != (m : Int)) = true := by rw [bne, d1]; rfl
    clear h1 h2
    go_enter Try.func29, Try.ntmps29
    go_wp2_with fail
    go_ret
    exact ⟨rfl, bel _ _⟩
  · obtain rfl : p = n := by have := HN.out; have := HP.out; omega
    obtain rfl : x = m := by have := HM.out; have := HX.out; omega
    clear h1 h2
    have fin1 : (∃ s ∈ D, ¬ valP s) ∨ (∀ s ∈ D, valP s) := by
      by_cases h : ∃ s ∈ D, ¬ valP s
      · exact .inl h
      · exact .inr fun s hs => Classical.byContradiction fun k => h ⟨s, hs, k⟩
    rcases hv with ⟨h3, rfl⟩ | ⟨h3, h4, rfl⟩ | ⟨h3, h4, hv⟩
    · have H3 := Lib.hid h3
      clear h3 fin1
      go_enter Try.func29, Try.ntmps29
      go_wp2_with fail
      refine (hasno_any E p q D _ (HE.out.keep (Nat.le_refl _) (bel _ _)) HP.out hp2 HD.out true ⟨fun _ => H3.out, fun _ => rfl⟩).mono ?_
      rintro e w1 ⟨rfl, hB⟩
      have HB := Lib.hid ((bel _ _).trans (hB.mono (bel _ _).size))
      clear hB
      go_wp2_with fail
      go_ret
      exact ⟨rfl, HB.out⟩
    · have H3 := Lib.hid h3
      have H4 := Lib.hid h4
      clear h3 h4 fin1
      go_enter Try.func29, Try.ntmps29
      go_wp2_with fail
      refine (hasno_any E p q D _ (HE.out.keep (Nat.le_refl _) (bel _ _)) HP.out hp2 HD.out false ⟨fun h => (by cases h), fun ⟨s, hs, h⟩ => absurd (H3.out s hs) h⟩).mono ?_
      rintro e w1 ⟨rfl, hB⟩
      have HB := Lib.hid ((bel _ _).trans (hB.mono (bel _ _).size))
      obtain ⟨hc1, hf1⟩ := bcell hB
      clear hB
      go_wp2_with fail
      refine (hasgreat_any F x y X _ (HF.out.keep (Nat.le_refl _) HB.out) HX.out hx2 true ⟨fun _ => H4.out, fun _ => rfl⟩).mono ?_
      rintro e w2 ⟨rfl, hB2⟩
      have HB2 := Lib.hid (bthen HB.out hB2)
      clear hB2 hc1 hf1
      go_wp2_with fail
      go_ret
      exact ⟨rfl, HB2.out⟩
    · have H3 := Lib.hid h3
      have H4 := Lib.hid h4
      have HV := Lib.hid hv
      clear h3 h4 fin1 hv
      go_enter Try.func29, Try.ntmps29
      go_wp2_with fail
      refine (hasno_any E p q D _ (HE.out.keep (Nat.le_refl _) (bel _ _)) HP.out hp2 HD.out false ⟨fun h => (by cases h), fun ⟨s, hs, h⟩ => absurd (H3.out s hs) h⟩).mono ?_
      rintro e w1 ⟨rfl, hB⟩
      have HB := Lib.hid ((bel _ _).trans (hB.mono (bel _ _).size))
      obtain ⟨hc1, hf1⟩ := bcell hB
      clear hB
      go_wp2_with fail
      refine (hasgreat_any F x y X _ (HF.out.keep (Nat.le_refl _) HB.out) HX.out hx2 false ⟨fun h => (by cases h), fun ⟨s, hs, h⟩ => absurd h (H4.out s hs)⟩).mono ?_
      rintro e w2 ⟨rfl, hB2⟩
      have HB2 := Lib.hid (bthen HB.out hB2)
      have g1 : w1.cell? ⟨w.heap.size + 1, 0, none⟩ = some (.int .i64 t) := by rw [hc1 _ _ (by simp)]; simp
      have g2 : w2.cell? ⟨w.heap.size + 1, 0, none⟩ = some (.int .i64 t) := cell_on hB2 g1
      clear hB2 hc1 hf1 g1
      rcases HV.out with ⟨h5, rfl⟩ | ⟨h5, rfl⟩ | ⟨h5, h6, rfl⟩
      · go_wp2_with fail
        go_ret
        exact ⟨rfl, HB2.out⟩
      · have h6 : ¬ t < 0 := by omega
        go_wp2_with fail
        go_ret
        exact ⟨rfl, HB2.out⟩
      · have h7 : ¬ t < 0 := by omega
        have h8 : ¬ 1099511627776 < t := by omega
        go_wp2_with fail
        go_ret
        exact ⟨rfl, HB2.out⟩
end Go.Proofs.Ytlfhjjlgmhkepaa
