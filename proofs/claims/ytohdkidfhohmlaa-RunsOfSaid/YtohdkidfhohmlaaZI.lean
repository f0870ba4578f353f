/- The law RunsBoth: its walk. -/
import Derived.Test.YtohdkidfhohmlaaZH
import Derived.Laws.AppendOwnNone
namespace Go.Proofs.Ytohdkidfhohmlaa
open Go.ChangeShapes Go.WideShapes Go.Deep Go.RowKit
set_option linter.unusedSimpArgs false
set_option linter.unusedVariables false
theorem runs_none {H : Type} {enc : TypeId × Value → H} {w : World} {base : Nat} {spare : Nat → Bool} {held : Bool} {A : Option Addr} {len cap fuel : Nat} {x : DataW H × List MemPlace}
    (h : DataW.trod enc Try.prog w base spare held fuel 24 (Value.slice A len cap).cells.toList = some x) : A = none → len = 0 ∧ cap = 0 := by
  rcases open_slice Try.underlying24 h with ⟨hcs, _⟩ | ⟨a, l, c, m, n, D, Pl, hcs, _, hl, hm, hmm, _, hi⟩
  · simp [Value.cells] at hcs
    obtain ⟨rfl, rfl, rfl⟩ := hcs
    exact fun _ => ⟨rfl, rfl⟩
  · simp [Value.cells] at hcs
    obtain ⟨rfl, rfl, rfl⟩ := hcs
    intro h; cases h
theorem own_empty {w : World} {B : Nat} {t : TypeId} {size : Nat} (hB : B ≤ w.heap.size) : (w.alloc (.cells #[] t)).ownsRow B t size (.slice (some ⟨w.heap.size, 0, none⟩) 0 0) 0 [] :=
  ⟨by simp, .inr ⟨w.heap.size, 0, #[], rfl, hB, Blk.new w t #[], Nat.le_refl _, Nat.zero_le _, by simp, by simp⟩⟩
theorem append_set {ops : Array Oper} {rest : List Oper} {o : Oper} {a : Act} {Q : Exit → Act → World → Prop} {w : World} (hgd : o.guard = none) (s x : Operand)
    (ho : o.op = .call { callee := .builtin .append, args := #[s, x], argTypes := #[24, 24] }) (B : Nat) (v : Value) (hs : a.eval s = v) (hown : w.ownsRow B 45 2 v 0 [])
    (A : Option Addr) (n c : Nat) (L : List (Int × Int)) (hx : a.eval x = .slice A n c) (hA : Row w A (cellsP L)) (hz : n = L.length) (hnone : A = none → n = 0 ∧ c = 0) (hn : n ≤ 1000000) (hB : B ≤ w.heap.size)
    (h : ∀ v' w', OwnP B w' v' L → Below B w w' → wpList Try.prog ops Q rest (a.put o.dst v') w') : wpList Try.prog ops Q (o :: rest) a w := by
  obtain ⟨i0, hi0, hz0, hz1, hz2⟩ := info_parts Try.info45
  cases A with
  | none =>
    obtain ⟨rfl, rfl⟩ := hnone rfl
    have hl : L = [] := List.length_eq_zero_iff.1 hz.symm
    subst hl
    exact wpList_append_own_none hgd s x 24 ho B 45 i0 2 Try.underlying24 hi0 v 0 [] hs hown hx (h v w hown (Below.refl _ _))
  | some ad =>
    have hlen := cellsP_length L
    have hnews : ∀ j u, (cellsP L)[j]? = some u → w.cell? (ad.add j) = some u := by
      intro j u hu
      rcases hA with h0 | ⟨b, off, he, hc⟩
      · rw [h0] at hu; simp at hu
      · cases he
        have hadd : (⟨b, off, none⟩ : Addr).add j = ⟨b, off + j, none⟩ := by
          unfold Addr.add; split
          · rename_i h; subst h; rfl
          · rfl
        rw [hadd]; exact hc j u hu
    refine wpList_append_own w hgd s x 24 ho B 45 i0 (.agg #[.int .i64 0, .int .i64 0]) 2 16 Try.underlying24 hi0 hz0 hz1 hz2 rfl (by decide) v 0 [] hs hown ad n c (cellsP L) hx (by rw [hlen, hz]) hnews ?_ (by unfold maxLen; omega) (by omega) hB ?_
    · intro u hu
      obtain ⟨j, hj, rfl⟩ := List.getElem_of_mem hu
      obtain ⟨k, hk, ⟨_, h2⟩ | ⟨_, h2⟩⟩ := cellsP_at (List.getElem?_eq_getElem hj)
      · rw [h2]; rfl
      · rw [h2]; rfl
    · intro v' w' hown' hgrow _
      refine h v' w' ?_ ((Below.refl B w).grown hgrow hB (fun k hk => (hown.lt k hk).1))
      unfold OwnP
      rw [← hz]
      simpa using hown'
set_option maxRecDepth 100000 in
set_option maxHeartbeats 4000000 in
theorem both_walk (AX : Option Addr) (nX cX : Nat) (X : List (Int × Int)) (AY : Option Addr) (nY cY : Nat) (Y : List (Int × Int)) (w : World) (hrX : Row w AX (cellsP X)) (hzX : nX = X.length) (hcX : nX ≤ cX) (hrY : Row w AY (cellsP Y)) (hzY : nY = Y.length) (hcY : nY ≤ cY) (hnX : AX = none → nX = 0 ∧ cX = 0) (hnY : AY = none → nY = 0 ∧ cY = 0) :
    Calls Try.prog 5 #[.slice AX nX cX, .slice AY nY cY] w fun e w' => e = .returned (.bool true) ∧ Below w.heap.size w w' := by
  subst hzX
  have HRX := Lib.hid hrX
  have HCX := Lib.hid hcX
  clear hrX hcX
  subst hzY
  have HRY := Lib.hid hrY
  have HCY := Lib.hid hcY
  clear hrY hcY
  have HB := Lib.hid (Below.refl w.heap.size w)
  have HNX := Lib.hid hnX
  have HNY := Lib.hid hnY
  clear hnX hnY
  by_cases hall : okSet X ∧ okSet Y
  · obtain ⟨hX, hY⟩ := hall
    have HTX := Lib.hid hX.2.1
    have HOX := Lib.hid ((okB_iff X).2 hX)
    have HLX := Lib.hid hX.1
    have HHX := Lib.hid trivial
    have HTY := Lib.hid hY.2.1
    have HOY := Lib.hid ((okB_iff Y).2 hY)
    have HLY := Lib.hid hY.1
    have HHY := Lib.hid trivial
    clear hX hY
    go_enter Try.func5, Try.ntmps5
    go_wp2_with fail
    refine (fits_any AX X.length cX X _ HRX.out rfl).mono ?_
    rintro e w1 ⟨rfl, hB⟩
    rw [HOX.out]
    replace HRX := Lib.hid (HRX.out.keep (Nat.le_refl _) hB)
    replace HRY := Lib.hid (HRY.out.keep (Nat.le_refl _) hB)
    replace HB := Lib.hid (bthen HB.out (hB))
    clear hB
    go_wp2_with fail
    refine (fits_any AY Y.length cY Y _ HRY.out rfl).mono ?_
    rintro e w2 ⟨rfl, hB⟩
    rw [HOY.out]
    replace HRX := Lib.hid (HRX.out.keep (Nat.le_refl _) hB)
    replace HRY := Lib.hid (HRY.out.keep (Nat.le_refl _) hB)
    replace HB := Lib.hid (bthen HB.out (hB))
    clear hB
    go_wp2_with (at_builtin; refine append_set rfl _ _ rfl w2.heap.size (.slice (some ⟨w2.heap.size, 0, none⟩) 0 0) rfl (own_empty (Nat.le_refl _)) AX X.length cX X rfl (HRX.out.keep (Nat.le_refl _) (bpush (Below.refl _ _) _)) rfl HNX.out (by have := HLX.out; omega) (by simp) ?_)
    intro vp w3 hownp hB9
    obtain ⟨Ap, cp, rfl, hrp, hlp⟩ := own_slice hownp
    have HRp := Lib.hid hrp
    have HCp := Lib.hid hlp
    have HTp := Lib.hid trivial
    have HHp := Lib.hid trivial
    have hB : Below w2.heap.size w2 w3 := (bpush (Below.refl _ _) _).trans hB9
    clear hownp hrp hlp hB9
    replace HRX := Lib.hid (HRX.out.keep (Nat.le_refl _) hB)
    replace HRY := Lib.hid (HRY.out.keep (Nat.le_refl _) hB)
    replace HB := Lib.hid (bthen HB.out (hB))
    clear hB
    go_wp2_with (at_builtin; refine append_set rfl _ _ rfl w3.heap.size (.slice (some ⟨w3.heap.size, 0, none⟩) 0 0) rfl (own_empty (Nat.le_refl _)) AY Y.length cY Y rfl (HRY.out.keep (Nat.le_refl _) (bpush (Below.refl _ _) _)) rfl HNY.out (by have := HLY.out; omega) (by simp) ?_)
    intro vq w4 hownq hB9
    obtain ⟨Aq, cq, rfl, hrq, hlq⟩ := own_slice hownq
    have HRq := Lib.hid hrq
    have HCq := Lib.hid hlq
    have HTq := Lib.hid trivial
    have HHq := Lib.hid trivial
    have hB : Below w3.heap.size w3 w4 := (bpush (Below.refl _ _) _).trans hB9
    clear hownq hrq hlq hB9
    replace HRX := Lib.hid (HRX.out.keep (Nat.le_refl _) hB)
    replace HRY := Lib.hid (HRY.out.keep (Nat.le_refl _) hB)
    replace HRp := Lib.hid (HRp.out.keep (Nat.le_refl _) hB)
    replace HB := Lib.hid (bthen HB.out (hB))
    clear hB
    go_wp2_with fail
    refine (and_any AX AY X.length cX Y.length cY X Y _ HRX.out HRY.out rfl rfl HCX.out HCY.out HTX.out HTY.out).mono ?_
    rintro e w5 ⟨La, Aa, ca, rfl, hra, hla, hga, hha, hB⟩
    have HRa := Lib.hid hra
    have HCa := Lib.hid hla
    have HTa := Lib.hid hga
    have HHa := Lib.hid hha
    clear hra hla hga hha
    replace HRX := Lib.hid (HRX.out.keep (Nat.le_refl _) hB)
    replace HRY := Lib.hid (HRY.out.keep (Nat.le_refl _) hB)
    replace HRp := Lib.hid (HRp.out.keep (Nat.le_refl _) hB)
    replace HRq := Lib.hid (HRq.out.keep (Nat.le_refl _) hB)
    replace HB := Lib.hid (bthen HB.out (hB))
    clear hB
    go_wp2_with fail
    refine (rand_any AX X.length cX X AY Y.length cY Y _ HRX.out rfl HRY.out rfl HTX.out HTY.out).mono ?_
    rintro e w6 ⟨Lb, Ab, cb, rfl, hrb, hgb, hhb, hB⟩
    have HRb := Lib.hid hrb
    have HCb := Lib.hid trivial
    have HTb := Lib.hid hgb
    have HHb := Lib.hid hhb
    clear hrb hgb hhb
    replace HRX := Lib.hid (HRX.out.keep (Nat.le_refl _) hB)
    replace HRY := Lib.hid (HRY.out.keep (Nat.le_refl _) hB)
    replace HRp := Lib.hid (HRp.out.keep (Nat.le_refl _) hB)
    replace HRq := Lib.hid (HRq.out.keep (Nat.le_refl _) hB)
    replace HRa := Lib.hid (HRa.out.keep (Nat.le_refl _) hB)
    replace HB := Lib.hid (bthen HB.out (hB))
    clear hB
    go_wp2_with fail
    obtain rfl : La = Lb := right_ext HTa.out HTb.out (fun x => by rw [HHa.out, HHb.out])
    refine (same_yes Aa Ab La.length ca La.length cb La _ HRa.out HRb.out rfl rfl (by have := right_length HTa.out; omega)).mono ?_
    rintro e w8 ⟨rfl, hB⟩
    replace HRX := Lib.hid (HRX.out.keep (Nat.le_refl _) hB)
    replace HRY := Lib.hid (HRY.out.keep (Nat.le_refl _) hB)
    replace HRp := Lib.hid (HRp.out.keep (Nat.le_refl _) hB)
    replace HRq := Lib.hid (HRq.out.keep (Nat.le_refl _) hB)
    replace HRa := Lib.hid (HRa.out.keep (Nat.le_refl _) hB)
    replace HRb := Lib.hid (HRb.out.keep (Nat.le_refl _) hB)
    replace HB := Lib.hid (bthen HB.out (hB))
    clear hB
    go_wp2_with fail
    clear HRb HCb HTb HHb
    clear HRa HCa HTa HHa
    refine (or_any AX AY X.length cX Y.length cY X Y _ HRX.out HRY.out rfl rfl HCX.out HCY.out HTX.out HTY.out).mono ?_
    rintro e w9 ⟨La, Aa, ca, rfl, hra, hla, hga, hha, hB⟩
    have HRa := Lib.hid hra
    have HCa := Lib.hid hla
    have HTa := Lib.hid hga
    have HHa := Lib.hid hha
    clear hra hla hga hha
    replace HRX := Lib.hid (HRX.out.keep (Nat.le_refl _) hB)
    replace HRY := Lib.hid (HRY.out.keep (Nat.le_refl _) hB)
    replace HRp := Lib.hid (HRp.out.keep (Nat.le_refl _) hB)
    replace HRq := Lib.hid (HRq.out.keep (Nat.le_refl _) hB)
    replace HB := Lib.hid (bthen HB.out (hB))
    clear hB
    go_wp2_with fail
    refine (ror_any AX X.length cX X AY Y.length cY Y _ HRX.out rfl HRY.out rfl HTX.out HTY.out).mono ?_
    rintro e w10 ⟨Lb, Ab, cb, rfl, hrb, hgb, hhb, hB⟩
    have HRb := Lib.hid hrb
    have HCb := Lib.hid trivial
    have HTb := Lib.hid hgb
    have HHb := Lib.hid hhb
    clear hrb hgb hhb
    replace HRX := Lib.hid (HRX.out.keep (Nat.le_refl _) hB)
    replace HRY := Lib.hid (HRY.out.keep (Nat.le_refl _) hB)
    replace HRp := Lib.hid (HRp.out.keep (Nat.le_refl _) hB)
    replace HRq := Lib.hid (HRq.out.keep (Nat.le_refl _) hB)
    replace HRa := Lib.hid (HRa.out.keep (Nat.le_refl _) hB)
    replace HB := Lib.hid (bthen HB.out (hB))
    clear hB
    go_wp2_with fail
    obtain rfl : La = Lb := right_ext HTa.out HTb.out (fun x => by rw [HHa.out, HHb.out])
    refine (same_yes Aa Ab La.length ca La.length cb La _ HRa.out HRb.out rfl rfl (by have := right_length HTa.out; omega)).mono ?_
    rintro e w12 ⟨rfl, hB⟩
    replace HRX := Lib.hid (HRX.out.keep (Nat.le_refl _) hB)
    replace HRY := Lib.hid (HRY.out.keep (Nat.le_refl _) hB)
    replace HRp := Lib.hid (HRp.out.keep (Nat.le_refl _) hB)
    replace HRq := Lib.hid (HRq.out.keep (Nat.le_refl _) hB)
    replace HRa := Lib.hid (HRa.out.keep (Nat.le_refl _) hB)
    replace HRb := Lib.hid (HRb.out.keep (Nat.le_refl _) hB)
    replace HB := Lib.hid (bthen HB.out (hB))
    clear hB
    go_wp2_with fail
    clear HRb HCb HTb HHb
    clear HRa HCa HTa HHa
    refine (minus_any AX AY X.length cX Y.length cY X Y _ HRX.out HRY.out rfl rfl HCX.out HCY.out HTX.out HTY.out).mono ?_
    rintro e w13 ⟨La, Aa, ca, rfl, hra, hla, hga, hha, hB⟩
    have HRa := Lib.hid hra
    have HCa := Lib.hid hla
    have HTa := Lib.hid hga
    have HHa := Lib.hid hha
    clear hra hla hga hha
    replace HRX := Lib.hid (HRX.out.keep (Nat.le_refl _) hB)
    replace HRY := Lib.hid (HRY.out.keep (Nat.le_refl _) hB)
    replace HRp := Lib.hid (HRp.out.keep (Nat.le_refl _) hB)
    replace HRq := Lib.hid (HRq.out.keep (Nat.le_refl _) hB)
    replace HB := Lib.hid (bthen HB.out (hB))
    clear hB
    go_wp2_with fail
    refine (rminus_any AX X.length cX X AY Y.length cY Y _ HRX.out rfl HRY.out rfl HTX.out HTY.out).mono ?_
    rintro e w14 ⟨Lb, Ab, cb, rfl, hrb, hgb, hhb, hB⟩
    have HRb := Lib.hid hrb
    have HCb := Lib.hid trivial
    have HTb := Lib.hid hgb
    have HHb := Lib.hid hhb
    clear hrb hgb hhb
    replace HRX := Lib.hid (HRX.out.keep (Nat.le_refl _) hB)
    replace HRY := Lib.hid (HRY.out.keep (Nat.le_refl _) hB)
    replace HRp := Lib.hid (HRp.out.keep (Nat.le_refl _) hB)
    replace HRq := Lib.hid (HRq.out.keep (Nat.le_refl _) hB)
    replace HRa := Lib.hid (HRa.out.keep (Nat.le_refl _) hB)
    replace HB := Lib.hid (bthen HB.out (hB))
    clear hB
    go_wp2_with fail
    obtain rfl : La = Lb := right_ext HTa.out HTb.out (fun x => by rw [HHa.out, HHb.out])
    refine (same_yes Aa Ab La.length ca La.length cb La _ HRa.out HRb.out rfl rfl (by have := right_length HTa.out; omega)).mono ?_
    rintro e w16 ⟨rfl, hB⟩
    replace HRX := Lib.hid (HRX.out.keep (Nat.le_refl _) hB)
    replace HRY := Lib.hid (HRY.out.keep (Nat.le_refl _) hB)
    replace HRp := Lib.hid (HRp.out.keep (Nat.le_refl _) hB)
    replace HRq := Lib.hid (HRq.out.keep (Nat.le_refl _) hB)
    replace HRa := Lib.hid (HRa.out.keep (Nat.le_refl _) hB)
    replace HRb := Lib.hid (HRb.out.keep (Nat.le_refl _) hB)
    replace HB := Lib.hid (bthen HB.out (hB))
    clear hB
    go_wp2_with fail
    clear HRb HCb HTb HHb
    clear HRa HCa HTa HHa
    refine (alive_any _).mono ?_
    rintro e w17 ⟨rfl, hB⟩
    replace HRX := Lib.hid (HRX.out.keep (Nat.le_refl _) hB)
    replace HRY := Lib.hid (HRY.out.keep (Nat.le_refl _) hB)
    replace HRp := Lib.hid (HRp.out.keep (Nat.le_refl _) hB)
    replace HRq := Lib.hid (HRq.out.keep (Nat.le_refl _) hB)
    replace HB := Lib.hid (bthen HB.out (hB))
    clear hB
    go_wp2_with fail
    refine (same_yes AX Ap X.length cX X.length cp X _ HRX.out HRp.out rfl rfl (by have := HLX.out; omega)).mono ?_
    rintro e w18 ⟨rfl, hB⟩
    replace HRX := Lib.hid (HRX.out.keep (Nat.le_refl _) hB)
    replace HRY := Lib.hid (HRY.out.keep (Nat.le_refl _) hB)
    replace HRp := Lib.hid (HRp.out.keep (Nat.le_refl _) hB)
    replace HRq := Lib.hid (HRq.out.keep (Nat.le_refl _) hB)
    replace HB := Lib.hid (bthen HB.out (hB))
    clear hB
    go_wp2_with fail
    refine (same_yes AY Aq Y.length cY Y.length cq Y _ HRY.out HRq.out rfl rfl (by have := HLY.out; omega)).mono ?_
    rintro e w19 ⟨rfl, hB⟩
    replace HRX := Lib.hid (HRX.out.keep (Nat.le_refl _) hB)
    replace HRY := Lib.hid (HRY.out.keep (Nat.le_refl _) hB)
    replace HRp := Lib.hid (HRp.out.keep (Nat.le_refl _) hB)
    replace HRq := Lib.hid (HRq.out.keep (Nat.le_refl _) hB)
    replace HB := Lib.hid (bthen HB.out (hB))
    clear hB
    go_wp2_with fail
    go_ret
    exact ⟨rfl, HB.out⟩
  · obtain ⟨p, hp⟩ : ∃ p, p = okB X := ⟨_, rfl⟩
    obtain ⟨q, hq⟩ : ∃ q, q = okB Y := ⟨_, rfl⟩
    have hno : ¬ (p = true ∧ q = true) := fun h => hall ⟨(okB_iff X).1 (hp ▸ h.1), (okB_iff Y).1 (hq ▸ h.2)⟩
    have HOX := Lib.hid hp.symm
    have HOY := Lib.hid hq.symm
    have HNO := Lib.hid hno
    clear hp hq hno hall
    go_enter Try.func5, Try.ntmps5
    go_wp2_with fail
    refine (fits_any AX X.length cX X _ HRX.out rfl).mono ?_
    rintro e w20 ⟨rfl, hB⟩
    rw [HOX.out]
    replace HRX := Lib.hid (HRX.out.keep (Nat.le_refl _) hB)
    replace HRY := Lib.hid (HRY.out.keep (Nat.le_refl _) hB)
    replace HB := Lib.hid (bthen HB.out (hB))
    clear hB
    go_wp2_with fail
    refine (fits_any AY Y.length cY Y _ HRY.out rfl).mono ?_
    rintro e w21 ⟨rfl, hB⟩
    rw [HOY.out]
    replace HRX := Lib.hid (HRX.out.keep (Nat.le_refl _) hB)
    replace HRY := Lib.hid (HRY.out.keep (Nat.le_refl _) hB)
    replace HB := Lib.hid (bthen HB.out (hB))
    clear hB
    cases p <;> cases q <;> first | exact absurd ⟨rfl, rfl⟩ HNO.out | skip
    all_goals
      go_wp2_with fail
      refine (alive_any _).mono ?_
      rintro e w9 ⟨rfl, hB⟩
      replace HB := Lib.hid (bthen HB.out hB)
      clear hB
      go_wp2_with fail
      go_ret
      exact ⟨rfl, HB.out⟩
end Go.Proofs.Ytohdkidfhohmlaa
