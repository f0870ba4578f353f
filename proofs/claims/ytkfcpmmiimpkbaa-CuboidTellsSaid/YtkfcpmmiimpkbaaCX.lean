/- places, pick. those, Split. Split. -/
import Derived.Test.YtkfcpmmiimpkbaaNS
import Derived.Test.YtkfcpmmiimpkbaaRA
import Derived.Deep.DeepCutAuto
import Derived.Test.YtkfcpmmiimpkbaaSM
import Derived.Test.YtkfcpmmiimpkbaaRH
import Derived.Laws.EntriesVeiled
namespace Go.Proofs.Ytkfcpmmiimpkbaa
open Go.RowKit
set_option linter.unusedSimpArgs false
set_option linter.unusedVariables false
theorem cinfo52 : (Try.prog.info? 3).map (fun i => (i.zero, i.size, i.bytes)) = some (some (.int .i64 0), 1, 8) := by kernel_rfl
theorem cinfo22 : (Try.prog.info? 9).map (fun i => (i.zero, i.size, i.bytes)) = some (some (.string ⟨#[]⟩), 1, 16) := by kernel_rfl
/-- Where names stand. -/
def PlcIs (L M : List ByteArray) (I : List Nat) : Prop := I.length ≤ M.length ∧ ∀ j (h : j < I.length) (hm : j < M.length), ∃ hj : I[j] < L.length, L[I[j]] = M[j]
def ints (I : List Nat) : List Value := I.map fun (i : Nat) => Value.int .i64 (i : Int)
theorem ints_at {w : World} {A : Option Addr} {I : List Nat} {j : Nat} (hA : Row w A (ints I)) (hj : j < I.length) : ∃ b off, A = some ⟨b, off, none⟩ ∧ w.cell? ⟨b, off + j, none⟩ = some (.int .i64 (I[j] : Int)) := by
  rcases hA with hA | ⟨b, off, rfl, hc⟩
  · have := congrArg List.length hA; simp [ints] at this; rw [this] at hj; simp at hj
  · exact ⟨b, off, rfl, hc j _ (by simp [ints, hj])⟩
theorem ints_snoc (I : List Nat) (i : Nat) : ints I ++ [.int .i64 (i : Int)] = ints (I ++ [i]) := by simp [ints]
theorem ints_len (I : List Nat) : (ints I).length = I.length := by simp [ints]
theorem texts_snoc (L : List ByteArray) (s : ByteArray) : texts L ++ [.string s] = texts (L ++ [s]) := by simp [texts]
theorem own_int {B : Nat} {w : World} {v : Value} {n : Nat} {I : List Nat} (h : w.ownsRow B 3 1 v n (ints I)) : n = I.length ∧ ∃ A c, v = .slice A n c ∧ Row w A (ints I) ∧ n ≤ c ∧ (A = none → c = 0) := by
  have := h.1
  rw [ints_len] at this
  exact ⟨by omega, own_slice h⟩
set_option maxRecDepth 100000 in
set_option maxHeartbeats 8000000 in
theorem places_any (A B C : Option Addr) (n c m d k kc : Nat) (L M : List ByteArray) (w : World) (hA : Row w A (texts L)) (hn : n = L.length) (hn2 : n ≤ 9223372036854775807) (hC : Row w C (texts M)) (hk : k = M.length) (hk2 : k ≤ 1000000) (hs : ∀ s ∈ M, s ∈ L) :
    Calls Try.prog 24 #[.agg #[.slice A n c, .slice B m d], .slice C k kc] w fun e w' => ∃ I A' c', e = .returned (.slice A' k c') ∧ w'.ownsRow w.heap.size 3 1 (.slice A' k c') k (ints I) ∧ PlcIs L M I ∧ I.length = k ∧ Below w.heap.size w w' := by
  obtain ⟨W1, hW1⟩ : ∃ W1, W1 = w.alloc (.cells #[.slice A n c, .slice B m d] 24) := ⟨_, rfl⟩
  have hb1 : Below w.heap.size w W1 := by rw [hW1]; exact bpush (Below.refl _ _) _
  have HB1 := Lib.hid hb1
  have s0 : W1.cell? ⟨w.heap.size, 0, none⟩ = some (.slice A n c) := by rw [hW1]; exact cell_made rfl rfl
  have s1 : W1.cell? ⟨w.heap.size, 1, none⟩ = some (.slice B m d) := by rw [hW1]; exact cell_made rfl rfl
  have HA := Lib.hid (hA.keep (Nat.le_refl _) hb1)
  have HC := Lib.hid (hC.keep (Nat.le_refl _) hb1)
  have HN := Lib.hid hn
  have HK := Lib.hid hk
  have HS := Lib.hid hs
  have HW1 := Lib.hid hW1
  have hwz : w.heap.size < W1.heap.size := by rw [hW1]; simp
  have HS01 := Lib.hid (And.intro s0 s1)
  obtain ⟨i0, hi0, hz0, hz1, hz2⟩ := info_parts cinfo52
  clear hA hC hn hk hs hW1 hb1 s0 s1
  go_enter Try.func24, Try.ntmps24
  go_upto_region 1 with fail
  rw [← HW1.out]
  go_wp2_with fail
  go_loopw [5, 12] (fun v5 v12 wr => ∃ (j : Nat) (I : List Nat) (A' : Option Addr) (c' : Nat), v5 = .slice A' j c' ∧ v12 = .int .i64 j ∧ j ≤ k ∧ I.length = j ∧ Hid (wr.ownsRow W1.heap.size 3 1 (.slice A' j c') j (ints I)) ∧ Hid (PlcIs L M I) ∧ Hid (Below W1.heap.size W1 wr)) (fun _ v12 _ => k - (intOf v12).toNat)
  case atStart => exact ⟨0, [], none, 0, rfl, rfl, Nat.zero_le _, rfl, Lib.hid (World.ownsRow_nil _ _ _ _), Lib.hid ⟨Nat.zero_le _, fun j h => by simp at h⟩, Lib.hid (Below.refl _ _)⟩
  case round =>
    obtain ⟨j, I, A', c', rfl, rfl, hjk, hIl, HO, HP, HB⟩ := hrel
    have HIL := Lib.hid hIl
    clear hIl
    by_cases hlt : j < k
    case neg =>
      obtain rfl : j = k := by omega
      have hjz : ¬ ((j : Int) < (j : Int)) := by omega
      clear hlt
      go_wp2_with fail
      go_ret
      exact ⟨I, A', c', rfl, own_less HO.out (Nat.le_of_lt hwz), HP.out, HIL.out, HB1.out.trans (HB.out.mono HB1.out.size)⟩
    case pos =>
    have hjz : (j : Int) < (k : Int) := by omega
    have hj0 : (0 : Int) ≤ (j : Int) := by omega
    have hjM : j < M.length := by have := HK.out; omega
    obtain ⟨bC, oC, hCe, hc⟩ := text_cell (HC.out.keep (Nat.le_refl _) HB.out) hjM
    subst hCe
    obtain ⟨s, hs⟩ : ∃ s, s = M[j] := ⟨_, rfl⟩
    rw [← hs] at hc
    have HSJ := Lib.hid hs
    clear hs
    have s0 := cell_on HB.out HS01.out.1
    have s1 := cell_on HB.out HS01.out.2
    have HD := Lib.hid (dim_any A B n c m d L s wr (HA.out.keep (Nat.le_refl _) HB.out) HN.out hn2)
    go_upto_region 6 with (go_at_call 45; refine HD.out.mono ?_; rintro e w1 ⟨⟨o, ho, rfl⟩, hb⟩; have HOO := Lib.hid ho; have HBB := Lib.hid hb; clear ho hb)
    obtain ⟨i, rfl⟩ : ∃ i, o = some i := by
      cases o with
      | some i => exact ⟨i, rfl⟩
      | none =>
        exfalso
        have h1 := HS.out s (by rw [HSJ.out]; exact List.getElem_mem hjM)
        obtain ⟨q, hq, e⟩ := List.getElem_of_mem h1
        exact HOO.out q hq e
    obtain ⟨hiL, hie, hi3⟩ := HOO.out
    have HP2 := Lib.hid (show PlcIs L M (I ++ [i]) from ⟨by rw [List.length_append, HIL.out]; simp; omega, fun q hq hqm => by
      rw [List.length_append, HIL.out] at hq
      rcases Nat.lt_or_ge q j with h | h
      · rw [List.getElem_append_left (by rw [HIL.out]; exact h)]
        exact HP.out.2 q (by rw [HIL.out]; exact h) hqm
      · have hqj : q = j := by simp at hq; omega
        subst hqj
        rw [List.getElem_append_right (by rw [HIL.out]; exact Nat.le_refl _)]
        simp only [HIL.out, Nat.sub_self, List.getElem_cons_zero]
        exact ⟨hiL, by rw [hie, HSJ.out]⟩⟩)
    have HO2 := Lib.hid (own_below HO.out HBB.out)
    have HB2 := Lib.hid (bthen HB.out HBB.out)
    clear hi3 hie hiL HOO HO HP HB HBB HD s0 s1 hc
    simp only [Option.getD_some]
    go_upto_region 7 with (at_builtin; refine wpList_append_own_at _ rfl _ _ 52 rfl W1.heap.size 3 i0 (.int .i64 0) 1 8 Try.underlying52 hi0 hz0 hz1 hz2 rfl (by decide) (.slice A' j c') j (ints I) rfl (HO2.out.alloc _) ⟨w1.heap.size, 0, none⟩ 1 1 [.int .i64 (i : Int)] rfl rfl (Row.made rfl rfl).at' (by intro u hu; simp at hu; subst hu; rfl) (by unfold maxLen; omega) (by omega) (by have := HB2.out.size; simp; omega) ?_; intro v3 w3 ho3 hg3 _ _; rw [ints_snoc] at ho3; obtain ⟨hn3, A3, c3, rfl, hr3, _, _⟩ := own_int ho3; have HO3 := Lib.hid ho3; have HG3 := Lib.hid hg3; clear ho3 hg3 hn3 hr3)
    have HB3 := Lib.hid (show Below W1.heap.size W1 w3 from ((HB2.out.alloc HB2.out.size _)).trans (grown_below (HO2.out.alloc _) HG3.out (by have := HB2.out.size; simp; omega)))
    go_wp2_with fail
    go_roundw
    case rel => exact ⟨j + 1, I ++ [i], A3, c3, rfl, by go_num, by omega, by rw [List.length_append, HIL.out]; rfl, HO3, HP2, HB3⟩
    case measure => simp [intOf]; omega
/-- The values that stand at some places. -/
def pickL (D : List ByteArray) (I : List Nat) : List ByteArray := I.filterMap fun i => D[i]?
theorem pickL_snoc (D : List ByteArray) (I : List Nat) (i : Nat) (h : i < D.length) : pickL D (I ++ [i]) = pickL D I ++ [D[i]] := by
  unfold pickL; rw [List.filterMap_append]; simp [h]
theorem pickL_len (D : List ByteArray) : ∀ I : List Nat, (∀ i ∈ I, i < D.length) → (pickL D I).length = I.length := by
  intro I
  induction I with
  | nil => intro _; rfl
  | cons i I ih =>
    intro h
    have hi := h i (List.mem_cons_self ..)
    unfold pickL
    rw [List.filterMap_cons, List.getElem?_eq_getElem hi]
    simp only [List.length_cons]
    have := ih fun j hj => h j (List.mem_cons_of_mem _ hj)
    unfold pickL at this
    rw [this]
set_option maxRecDepth 100000 in
set_option maxHeartbeats 8000000 in
theorem pick_any (A B : Option Addr) (n c m d : Nat) (D : List ByteArray) (I : List Nat) (w : World) (hA : Row w A (texts D)) (hn : n = D.length) (hn2 : n ≤ 9223372036854775807) (hB : Row w B (ints I)) (hm : m = I.length) (hm2 : m ≤ 1000000) (hI : ∀ i ∈ I, i < D.length) :
    Calls Try.prog 26 #[.slice A n c, .slice B m d] w fun e w' => ∃ A' c', e = .returned (.slice A' m c') ∧ w'.ownsRow w.heap.size 9 1 (.slice A' m c') m (texts (pickL D I)) ∧ Below w.heap.size w w' := by
  have HA := Lib.hid hA
  have HB := Lib.hid hB
  have HN := Lib.hid hn
  have HM := Lib.hid hm
  have HI := Lib.hid hI
  obtain ⟨i0, hi0, hz0, hz1, hz2⟩ := info_parts cinfo22
  clear hA hB hn hm hI
  go_enter Try.func26, Try.ntmps26
  go_wp2_with fail
  go_loopw [5, 10] (fun v5 v10 wr => ∃ (j : Nat) (A' : Option Addr) (c' : Nat), v5 = .slice A' j c' ∧ v10 = .int .i64 j ∧ j ≤ m ∧ Hid (wr.ownsRow w.heap.size 9 1 (.slice A' j c') j (texts (pickL D (I.take j)))) ∧ Hid (Below w.heap.size w wr)) (fun _ v10 _ => m - (intOf v10).toNat)
  case atStart => exact ⟨0, none, 0, rfl, rfl, Nat.zero_le _, Lib.hid (World.ownsRow_nil _ _ _ _), Lib.hid (Below.refl _ _)⟩
  case round =>
    obtain ⟨j, A', c', rfl, rfl, hjm, HO, HBW⟩ := hrel
    by_cases hlt : j < m
    case neg =>
      obtain rfl : j = m := by omega
      have hjz : ¬ ((j : Int) < (j : Int)) := by omega
      clear hlt
      go_wp2_with fail
      go_ret
      refine ⟨A', c', rfl, ?_, HBW.out⟩
      have := HO.out
      rwa [List.take_of_length_le (by rw [HM.out]; exact Nat.le_refl _)] at this
    case pos =>
    have hjz : (j : Int) < (m : Int) := by omega
    have hj0 : (0 : Int) ≤ (j : Int) := by omega
    have hjI : j < I.length := by have := HM.out; omega
    obtain ⟨bB, oB, hBe, hc⟩ := ints_at (HB.out.keep (Nat.le_refl _) HBW.out) hjI
    subst hBe
    obtain ⟨i, hi⟩ : ∃ i, i = I[j] := ⟨_, rfl⟩
    rw [← hi] at hc
    have hiD : i < D.length := by rw [hi]; exact HI.out _ (List.getElem_mem hjI)
    have HTK := Lib.hid (show pickL D (I.take (j + 1)) = pickL D (I.take j) ++ [D[i]] by
      rw [List.take_succ_eq_append_getElem hjI, ← hi, pickL_snoc _ _ _ hiD])
    obtain ⟨bA, oA, hAe, hd⟩ := text_cell (HA.out.keep (Nat.le_refl _) HBW.out) hiD
    subst hAe
    obtain ⟨s, hs⟩ : ∃ s, s = D[i] := ⟨_, rfl⟩
    rw [← hs] at hd HTK
    clear hs hi
    have hiz : (i : Int) < (n : Int) := by have := HN.out; omega
    have hi00 : (0 : Int) ≤ (i : Int) := by omega
    have hs8 : wr.heap.size + 1 ≤ wr.heap.size + 1 := Nat.le_refl _
    have hbw := HBW.out.size
    go_upto_region 7 with (at_builtin; refine wpList_append_own_at _ rfl _ _ 22 rfl w.heap.size 9 i0 (.string ⟨#[]⟩) 1 16 Try.underlying22 hi0 hz0 hz1 hz2 rfl (by decide) (.slice A' j c') j (texts (pickL D (I.take j))) rfl (HO.out.alloc _) ⟨wr.heap.size, 0, none⟩ 1 1 [.string s] rfl rfl (Row.made rfl rfl).at' (by intro u hu; simp at hu; subst hu; rfl) (by unfold maxLen; omega) (by omega) (by simp; omega) ?_; intro v3 w3 ho3 hg3 _ _; rw [texts_snoc, ← HTK.out] at ho3; obtain ⟨A3, c3, rfl, hr3, _, _⟩ := own_slice ho3; have HO3 := Lib.hid ho3; have HG3 := Lib.hid hg3; clear ho3 hg3 hr3)
    have HB3 := Lib.hid (show Below w.heap.size w w3 from ((HBW.out.alloc HBW.out.size _)).trans (grown_below (HO.out.alloc _) HG3.out (by simp; omega)))
    go_wp2_with fail
    go_roundw
    case rel => exact ⟨j + 1, A3, c3, rfl, by go_num, by omega, HO3, HB3⟩
    case measure => simp [intOf]; omega
end Go.Proofs.Ytkfcpmmiimpkbaa
namespace Go.Proofs.Ytkfcpmmiimpkbaa
open Go.RowKit Go.Shelf
set_option linter.unusedSimpArgs false
set_option linter.unusedVariables false
def stay (st : Int → Bool) (Z : List RZ) : List RZ := Z.filter fun z => st z.2.t
def ThosePost (w : World) (st : Int → Bool) (Z : List RZ) (e : Ending) (w' : World) : Prop := ∃ A n c Y, e = .returned (.slice A n c) ∧ n = (stay st Z).length ∧ w'.ownsRow w.heap.size 45 4 (.slice A n c) n (cellsR Y) ∧ Y.map Prod.snd = (stay st Z).map Prod.snd ∧ (∀ y ∈ Y, Owned w.heap.size w' y) ∧ Below w.heap.size w w'
set_option maxRecDepth 100000 in
set_option maxHeartbeats 8000000 in
theorem those_any (C : Option Addr) (k cap g : Nat) (lb : Array Value) (st : Int → Bool) (Z : List RZ) (w : World) (hC : RowsC w C Z) (hk : k = Z.length) (hk2 : k ≤ 1000000)
    (eg : ∀ args w, (callFunc g args).run Try.prog w = .ok (.enter g args) w) (hg : ∀ W, Below w.heap.size w W → ∀ t, Calls Try.prog g (#[.int .i64 t] ++ lb) W fun e W' => e = .returned (.bool (st t)) ∧ W = W') :
    Calls Try.prog 33 #[.slice C k cap, .func (.func g) #[] lb] w (ThosePost w st Z) := by
  have HC := Lib.hid hC
  have HK := Lib.hid hk
  have HG := Lib.hid hg
  clear hC hk hg
  go_enter Try.func33, Try.ntmps33
  go_wp2_with fail
  go_loopw [5, 10] (fun v5 v10 wr => ∃ (i q : Nat) (A' : Option Addr) (c' : Nat), v5 = .slice A' q c' ∧ v10 = .int .i64 i ∧ i ≤ k ∧ q ≤ i ∧ Hid (q = (stay st (Z.take i)).length) ∧ Hid (wr.ownsRow w.heap.size 45 4 (.slice A' q c') q (cellsR (stay st (Z.take i)))) ∧ Hid (Below w.heap.size w wr)) (fun _ v10 _ => k - (intOf v10).toNat)
  case atStart => exact ⟨0, 0, none, 0, rfl, rfl, Nat.zero_le _, Nat.le_refl _, Lib.hid (by simp [stay]), Lib.hid (World.ownsRow_nil _ _ _ _), Lib.hid (Below.refl _ _)⟩
  case round =>
    obtain ⟨i, q, A', c', rfl, rfl, hik, hqi, HQ, HO, HB⟩ := hrel
    by_cases hlt : i < k
    case neg =>
      obtain rfl : i = k := by omega
      have hjz : ¬ ((i : Int) < (i : Int)) := by omega
      have hst : stay st (Z.take i) = stay st Z := by rw [List.take_of_length_le (by rw [HK.out]; exact Nat.le_refl _)]
      rw [hst] at HO HQ
      obtain ⟨hq, A2, c2, e2, hr, _, _, _⟩ := own_sliceR HO.out
      cases e2
      have HCP := Lib.hid (copy_any A' q c' (stay st Z) wr ⟨hr, fun z hz => (HC.out.good z (List.mem_filter.1 hz).1).keep HB.out⟩ HQ.out (by omega))
      clear hst hq hr hlt
      go_wp2_with (go_at_call 53; refine HCP.out.mono ?_; rintro e w5 ⟨v5, Y5, rfl, ho5, hm5, hy5, hb5⟩; obtain ⟨hk5, A5, c5, rfl, hr5, q1, q2, q3⟩ := own_sliceR ho5; have HHY5 := Lib.hid hy5; have HO5 := Lib.hid ho5; have HM5 := Lib.hid hm5; have HHB5 := Lib.hid hb5; clear q1 q2 q3 hk5 ho5 hm5 hy5 hb5 hr5)
      go_ret
      have hw := HB.out.size
      exact ⟨A5, q, c5, Y5, rfl, HQ.out, own_less HO5.out hw, HM5.out, fun y hy => (HHY5.out y hy).less hw, bthen HB.out HHB5.out⟩
    case pos =>
    have hjz : (i : Int) < (k : Int) := by omega
    have hj0 : (0 : Int) ≤ (i : Int) := by omega
    have hiZ : i < Z.length := by have := HK.out; omega
    obtain ⟨x, hx⟩ : ∃ x, x = Z[i] := ⟨_, rfl⟩
    obtain ⟨bA, oA, hAe, x0, x1, x2, x3⟩ := row4 ((HC.out.keep HB.out).row) hiZ
    subst hAe
    rw [← hx] at x0 x1 x2 x3
    have htk : Z.take (i + 1) = Z.take i ++ [x] := by rw [List.take_succ_eq_append_getElem hiZ, hx]
    have HT := Lib.hid (show stay st (Z.take (i + 1)) = stay st (Z.take i) ++ if st x.2.t then [x] else [] by
      rw [htk]; unfold stay; rw [List.filter_append]; cases h : st x.2.t <;> simp [List.filter_cons, h])
    clear hx htk
    obtain ⟨⟨D1, n1, c1, G1, gn1, gc1⟩, ⟨t1, L1, u1, X1⟩⟩ := x
    simp only at x0 x1 x2 x3 HT
    obtain ⟨b, hb⟩ : ∃ b, b = st t1 := ⟨_, rfl⟩
    rw [← hb] at HT
    have hcl : ∀ W, Below w.heap.size w W → Calls Try.prog g (#[.int .i64 t1] ++ lb) W fun e W' => e = .returned (.bool b) ∧ W = W' := fun W hW => by rw [hb]; exact HG.out W hW t1
    have HCL := Lib.hid hcl
    clear hcl hb
    go_upto_region 5 with fail
    obtain ⟨wb, hwb⟩ : ∃ wb, wb = wr.alloc (.cells #[.int .i64 t1, .slice D1 n1 c1, .int .i64 u1, .slice G1 gn1 gc1] 45) := ⟨_, rfl⟩
    have hbx : Bx4 wb wr.heap.size (.int .i64 t1) (.slice D1 n1 c1) (.int .i64 u1) (.slice G1 gn1 gc1) := by rw [hwb]; exact Bx4.made
    obtain ⟨y0, y1, y2, y3, _⟩ := hbx
    have HBb := Lib.hid (show Below w.heap.size w wb by rw [hwb]; exact bpush HB.out _)
    have HOb := Lib.hid (show wb.ownsRow w.heap.size 45 4 (.slice A' q c') q (cellsR (stay st (Z.take i))) by rw [hwb]; exact HO.out.alloc _)
    rw [← hwb]
    clear hwb HO HB x0 x1 x2 x3
    cases b with
    | false =>
      go_wp2_with (go_at_fn g; refine (HCL.out _ HBb.out).mono ?_; rintro e w5 ⟨rfl, rfl⟩)
      go_roundw
      case rel => exact ⟨i + 1, q, A', c', rfl, by go_num, by omega, by omega, Lib.hid (by rw [HT.out]; simpa using HQ.out), Lib.hid (by rw [HT.out]; simpa using HOb.out), HBb⟩
      case measure => simp [intOf]; omega
    | true =>
      have HZR := Lib.hid (show Row (wb.alloc (.cells #[.int .i64 t1, .slice D1 n1 c1, .int .i64 u1, .slice G1 gn1 gc1] 45)) (some ⟨wb.heap.size, 0, none⟩) (cellsR [((⟨D1, n1, c1, G1, gn1, gc1⟩, ⟨t1, L1, u1, X1⟩) : RZ)]) by rw [cellsR_one]; exact Row.made (t := 45) rfl rfl)
      have HSZ := Lib.hid (show w.heap.size ≤ (wb.alloc (.cells #[.int .i64 t1, .slice D1 n1 c1, .int .i64 u1, .slice G1 gn1 gc1] 45)).heap.size by have := HBb.out.size; simp; omega)
      have HK64 := Lib.hid (show (q + 1) * 64 ≤ 140737488355328 by omega)
      have HNN := Lib.hid (show (some (⟨wb.heap.size, 0, none⟩ : Addr)) = none → 1 = 0 from fun h => by cases h)
      go_upto_region 7 with (first
        | (go_at_fn g; refine (HCL.out _ HBb.out).mono ?_; rintro e w5 ⟨rfl, rfl⟩)
        | (at_builtin; refine wpList_append_rows rfl _ _ rfl w.heap.size (.slice A' q c') q (cellsR (stay st (Z.take i))) rfl (some ⟨wb.heap.size, 0, none⟩) 1 1 [(⟨D1, n1, c1, G1, gn1, gc1⟩, ⟨t1, L1, u1, X1⟩)] rfl (HOb.out.alloc _) HZR.out rfl (Nat.le_refl _) HNN.out HK64.out HSZ.out ?_; intro v6 w6 ho6 hg6; rw [← cellsR_app] at ho6; obtain ⟨hk6, A6, c6, rfl, hr6, q1, q2, q3⟩ := own_sliceR ho6; have HO6 := Lib.hid ho6; have HG6 := Lib.hid hg6; clear q1 q2 q3 hr6 hk6 ho6 hg6))
      have HB6 := Lib.hid (show Below w.heap.size w w6 from ((HBb.out.alloc HBb.out.size _)).trans (grown_below4 (HOb.out.alloc _) HG6.out (by have := HBb.out.size; simp; omega)))
      go_wp2_with fail
      go_roundw
      case rel => exact ⟨i + 1, q + 1, A6, c6, rfl, by go_num, by omega, by omega, Lib.hid (by rw [HT.out]; have := HQ.out; simp; omega), Lib.hid (by rw [HT.out]; exact HO6.out), HB6⟩
      case measure => simp [intOf]; omega
end Go.Proofs.Ytkfcpmmiimpkbaa
namespace Go.Proofs.Ytkfcpmmiimpkbaa
open Go.RowKit Go.Shelf
set_option linter.unusedSimpArgs false
set_option linter.unusedVariables false
theorem below_at (a : Addr) (x t : Int) (W : World) (h : W.cell? a = some (.int .i64 x)) : Calls Try.prog 35 (#[.int .i64 t] ++ #[.pointer (some a)]) W fun e W' => e = .returned (.bool (decide (t < x))) ∧ W = W' := by
  show Calls Try.prog 35 #[.int .i64 t, .pointer (some a)] W _
  go_enter Try.func35, Try.ntmps35
  go_wp2_with fail
  go_ret
  exact ⟨rfl, rfl⟩
theorem others_at (a : Addr) (x t : Int) (W : World) (h : W.cell? a = some (.int .i64 x)) : Calls Try.prog 36 (#[.int .i64 t] ++ #[.pointer (some a)]) W fun e W' => e = .returned (.bool (decide (x ≤ t))) ∧ W = W' := by
  show Calls Try.prog 36 #[.int .i64 t, .pointer (some a)] W _
  go_enter Try.func36, Try.ntmps36
  go_wp2_with fail
  go_ret
  exact ⟨rfl, rfl⟩
def SplitPost (w : World) (x : Int) (Z : List RZ) (e : Ending) (w' : World) : Prop := ∃ A n c A2 n2 c2 Y Y2, e = .returned (.tuple #[.slice A n c, .slice A2 n2 c2]) ∧ n = (stay (fun t => decide (t < x)) Z).length ∧ n2 = (stay (fun t => decide (x ≤ t)) Z).length ∧ RowsC w' A Y ∧ RowsC w' A2 Y2 ∧ n ≤ c ∧ n2 ≤ c2 ∧ Y.map Prod.snd = (stay (fun t => decide (t < x)) Z).map Prod.snd ∧ Y2.map Prod.snd = (stay (fun t => decide (x ≤ t)) Z).map Prod.snd ∧ Below w.heap.size w w'
set_option maxRecDepth 100000 in
set_option maxHeartbeats 8000000 in
theorem split_any (C : Option Addr) (k cap : Nat) (x : Int) (Z : List RZ) (w : World) (hC : RowsC w C Z) (hk : k = Z.length) (hk2 : k ≤ 1000000) :
    Calls Try.prog 17 #[.slice C k cap, .int .i64 x] w (SplitPost w x Z) := by
  obtain ⟨W1, hW1⟩ : ∃ W1, W1 = w.alloc (.cells #[.int .i64 x] 3) := ⟨_, rfl⟩
  have hb1 : Below w.heap.size w W1 := by rw [hW1]; exact bpush (Below.refl _ _) _
  have hx : W1.cell? ⟨w.heap.size, 0, none⟩ = some (.int .i64 x) := by rw [hW1]; exact cell_made rfl rfl
  have hc1 := hC.keep hb1
  have H1 := Lib.hid (those_any C k cap 35 #[.pointer (some ⟨w.heap.size, 0, none⟩)] (fun t => decide (t < x)) Z W1 hc1 hk hk2 (fun args w => rfl) (fun W hW t => below_at _ _ _ _ (cell_on hW hx)))
  have H2 := Lib.hid (show ∀ W2, Below W1.heap.size W1 W2 → Calls Try.prog 33 #[.slice C k cap, .func (.func 36) #[] #[.pointer (some ⟨w.heap.size, 0, none⟩)]] W2 (ThosePost W2 (fun t => decide (x ≤ t)) Z) from fun W2 h2 =>
    those_any C k cap 36 #[.pointer (some ⟨w.heap.size, 0, none⟩)] (fun t => decide (x ≤ t)) Z W2 (hc1.keep h2) hk hk2 (fun args w => rfl) (fun W hW t => others_at _ _ _ _ (cell_on (bthen h2 hW) hx)))
  have HB1 := Lib.hid hb1
  have HW1 := Lib.hid hW1
  clear hC hk hc1 hx hb1 hW1
  go_enter Try.func17, Try.ntmps17
  go_upto_region 1 with fail
  rw [← HW1.out]
  clear HW1
  go_wp2_with (first
    | (go_at_call 33; refine (H2.out _ HBB.out).mono ?_; rintro e w3 ⟨A2, n2, c2, Y2, rfl, hn2, ho2, hm2, hy2, hb2⟩; have HN2 := Lib.hid hn2; have HO2 := Lib.hid ho2; have HM2 := Lib.hid hm2; have HY2 := Lib.hid hy2; have HBC := Lib.hid hb2; clear hn2 ho2 hm2 hy2 hb2)
    | (go_at_call 33; refine H1.out.mono ?_; rintro e w2 ⟨A1, n1, c1, Y1, rfl, hn1, ho1, hm1, hy1, hb1⟩; have HN1 := Lib.hid hn1; have HO1 := Lib.hid ho1; have HM1 := Lib.hid hm1; have HY1 := Lib.hid hy1; have HBB := Lib.hid hb1; clear hn1 ho1 hm1 hy1 hb1))
  refine bodyPost_ret (v := .tuple #[.slice A1 n1 c1, .slice A2 n2 c2]) (by simp [results, Try.results17, go_sem]) rfl ?_
  obtain ⟨_, A3, c3, e3, r3, q1, _, _⟩ := own_sliceR HO1.out
  cases e3
  obtain ⟨_, A4, c4, e4, r4, q2, _, _⟩ := own_sliceR HO2.out
  cases e4
  exact ⟨A1, n1, c1, A2, n2, c2, Y1, Y2, rfl, HN1.out, HN2.out, RowsC.keep ⟨r3, fun y hy => (HY1.out y hy).good⟩ HBC.out, ⟨r4, fun y hy => (HY2.out y hy).good⟩, q1, q2, HM1.out, HM2.out, bthen (bthen HB1.out HBB.out) HBC.out⟩
end Go.Proofs.Ytkfcpmmiimpkbaa
