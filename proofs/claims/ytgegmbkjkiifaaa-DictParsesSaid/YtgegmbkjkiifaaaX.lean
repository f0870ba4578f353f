/- Parse of whatever bytes. -/
import Derived.Test.YtgegmbkjkiifaaaW
namespace Go.Proofs.Ytgegmbkjkiifaaa
open Go.RowKit Go.Lib
set_option linter.unusedSimpArgs false
set_option linter.unusedVariables false
theorem readL_fail : ∀ (k : Nat) (prev : ByteArray) (bs : List Int) (L : List ByteArray) (ds : List Int), readL k prev bs = some (L, ds) → readT (lastT prev L) ds = none → ∀ m, k < m → readL m prev bs = none := by
  intro k
  induction k with
  | zero =>
    intro prev bs L ds h1 h2 m hm
    simp [readL] at h1
    obtain ⟨rfl, rfl⟩ := h1
    cases m with
    | zero => omega
    | succ m =>
      have h3 : readT prev bs = none := h2
      rw [readL, h3]
  | succ k ih =>
    intro prev bs L ds h1 h2 m hm
    rw [readL] at h1
    split at h1
    · cases h1
    · rename_i t cs ht
      split at h1
      · cases h1
      · rename_i M gs hM
        simp at h1
        obtain ⟨rfl, rfl⟩ := h1
        cases m with
        | zero => omega
        | succ m =>
          have h3 := ih t cs M gs hM (by rw [lastT_cons] at h2; exact h2) m (by omega)
          rw [readL, ht]
          simp only [h3]
/-- Bytes that Parse takes, and the dictionary that it makes of them. -/
def acc (bs : List Int) (D : List ByteArray) : Prop := ∃ L ds, readD bs = some (L, ds) ∧ (∀ s ∈ L, fitsT s) ∧ bytesD (dictL L) = bs ∧ D = dictL L
def ParsePost (w : World) (bs : List Int) (e : Ending) (w' : World) : Prop :=
  (∃ D p, acc bs D ∧ e = .returned (.tuple #[p, .int .i64 0]) ∧ DictP w' p D ∧ Below w.heap.size w w') ∨
  ((∀ D, ¬ acc bs D) ∧ e = .returned (.tuple #[.pointer none, .int .i64 61]) ∧ Below w.heap.size w w')
theorem no_acc {bs : List Int} (h : readD bs = none) (D : List ByteArray) : ¬ acc bs D := by
  rintro ⟨L, ds, h1, _⟩
  rw [h] at h1; cases h1
theorem bytes_drop' {xs : List Int} (n : Nat) (h : bytes xs) : bytes (xs.drop n) := fun x hx => h x (List.mem_of_mem_drop hx)
theorem bytesOf_inj : ∀ {xs ys : List Int}, bytes xs → bytes ys → Lib.bytesOf xs = Lib.bytesOf ys → xs = ys := by
  intro xs
  induction xs with
  | nil => intro ys _ _ h; cases ys with
    | nil => rfl
    | cons y ys => simp [Lib.bytesOf] at h
  | cons x xs ih =>
    intro ys hx hy h
    cases ys with
    | nil => simp [Lib.bytesOf] at h
    | cons y ys =>
      simp only [Lib.bytesOf, List.map_cons, List.cons.injEq] at h
      have h1 := hx x (List.mem_cons_self ..)
      have h2 := hy y (List.mem_cons_self ..)
      have h3 := congrArg UInt8.toNat h.1
      simp only [UInt8.toNat_ofNat'] at h3
      rw [ih (fun a ha => hx a (List.mem_cons_of_mem _ ha)) (fun a ha => hy a (List.mem_cons_of_mem _ ha)) h.2]
      congr 1
      omega
set_option maxRecDepth 100000 in
set_option maxHeartbeats 60000000 in
theorem parse_any (A : Option Addr) (n c : Nat) (bs : List Int) (w : World) (hA : Row w A (bs.map (Value.int .u8))) (hn : n = bs.length) (hnc : n ≤ c) (hnil : A = none → c = 0) (hb : bytes bs) (hl : n ≤ 400) :
    Calls Try.prog 21 #[.slice A n c] w (ParsePost w bs) := by
  obtain ⟨i0, hi0, hz0, hz1, hz2⟩ := info_parts info9
  have HA := Lib.hid hA
  have HBY := Lib.hid hb
  have HN := Lib.hid hn
  have HNIL := Lib.hid hnil
  obtain ⟨v0, l0, hp0⟩ : ∃ v l, numP bs = (v, l) := ⟨_, _, rfl⟩
  have HP0 := Lib.hid hp0
  have hv0 := (numP_len hp0).2.2
  clear hA hb hn hnil hp0
  go_enter Try.func21, Try.ntmps21
  go_wp2_with fail
  refine (openq_all A n c bs _ HA.out (by omega) HN.out HNIL.out).mono ?_
  rintro e w1 ⟨rb, rfl, hrb, hR, hb⟩
  have HB1 := Lib.hid hb
  have hlt1 : rb < w1.heap.size := hR.lt
  have HR1 := Lib.hid hR
  clear hb hR
  by_cases hc0 : l0 = 0 ∨ v0 < 0 ∨ 65536 < v0
  · have HNO := Lib.hid (no_acc (show readD bs = none by unfold readD; rw [HP0.out]; simp only []; rw [if_pos hc0]))
    go_wp2_with fail
    refine (rintq_bad rb _ 0 65536 _ HR1.out HBY.out v0 l0 HP0.out hc0).mono ?_
    rintro e w2 ⟨rfl, hR, hg⟩
    have HB2 := Lib.hid (show Below w.heap.size w w2 from grown_below hg HB1.out hrb)
    clear hR hg hc0
    go_wp2_with fail
    go_ret2
    exact .inr ⟨HNO.out, rfl, HB2.out⟩
  · obtain ⟨m, rfl⟩ : ∃ m : Nat, v0 = (m : Int) := ⟨v0.toNat, by omega⟩
    have hm : m ≤ 65536 := by omega
    have hl0 : 0 < l0 := by omega
    obtain ⟨cs, hcs⟩ : ∃ cs, cs = bs.drop l0 := ⟨_, rfl⟩
    have HRD := Lib.hid (show readD bs = readL m ⟨#[]⟩ cs by unfold readD; rw [HP0.out]; simp only []; rw [if_neg hc0, hcs]; simp)
    have HBC := Lib.hid (show bytes cs by rw [hcs]; exact bytes_drop' _ HBY.out)
    have HCS := Lib.hid hcs
    clear hc0 hcs
    go_wp2_with fail
    refine (rintq_good rb _ 0 65536 _ HR1.out HBY.out (m : Int) l0 HP0.out hl0 (by omega) (by omega)).mono ?_
    rintro e w2 ⟨rfl, hR, hg⟩
    rw [← HCS.out] at hR
    have HR2 := Lib.hid hR
    have HB2 := Lib.hid (show Below w.heap.size w w2 from grown_below hg HB1.out hrb)
    have hsz2 : w1.heap.size ≤ w2.heap.size := hg.size
    clear hR hg
    go_wp2_with fail
    go_loopw [7, 8, 9, 10, 11, 23] (fun v ah q er rs i wr => ∃ (k : Nat) (L : List ByteArray) (ds : List Int), k ≤ m ∧ i = .int .i64 k ∧ ah = .string (lastT ⟨#[]⟩ L) ∧ Hid (wr.ownsRow w1.heap.size 9 1 v k (texts L)) ∧ Hid (Rq wr rb ds) ∧ Hid (Below w.heap.size w wr) ∧ w1.heap.size ≤ wr.heap.size ∧ Hid (readL k ⟨#[]⟩ cs = some (L, ds)) ∧ Hid (bytes ds) ∧ (lastT ⟨#[]⟩ L).size ≤ 24 * k ∧ Hid (∀ s ∈ L, s.size ≤ 24 * k) ∧ Hid (L.length = k)) (fun _ _ _ _ _ i _ => m - (intOf i).toNat)
    case atStart => exact ⟨0, [], cs, Nat.zero_le _, rfl, rfl, Lib.hid (World.ownsRow_nil _ _ _ _), HR2, HB2, hsz2, Lib.hid rfl, HBC, by decide, Lib.hid (fun s hs => by cases hs), Lib.hid rfl⟩
    case round =>
      obtain ⟨k, L, ds, hk, rfl, rfl, HO, HR, HBW, hsz, HRL, HBD, hlast, HSZ, HLEN⟩ := hrel
      by_cases hlt : k < m
      · have hki : (k : Int) < (m : Int) := by omega
        have hk0 : (0 : Int) ≤ (k : Int) := by omega
        obtain ⟨a, ha⟩ : ∃ a, a = lastT ⟨#[]⟩ L := ⟨_, rfl⟩
        have HAA := Lib.hid ha
        rw [← ha] at hlast
        rw [← ha]
        clear ha
        obtain ⟨v1, l1, hp1⟩ : ∃ v l, numP ds = (v, l) := ⟨_, _, rfl⟩
        have HP1 := Lib.hid hp1
        have hv1 := (numP_len hp1).2.2
        clear hp1
        obtain ⟨la, hla⟩ : ∃ la, la = a.size := ⟨_, rfl⟩
        have hla2 : a.size = la := hla.symm
        have HLA := Lib.hid hla
        clear hla
        by_cases hc1 : l1 = 0 ∨ v1 < 0 ∨ (la : Int) < v1
        · have HNO := Lib.hid (no_acc (show readD bs = none by
            rw [HRD.out]
            refine readL_fail k _ _ L ds HRL.out ?_ m hlt
            rw [← HAA.out]; unfold readT; rw [HP1.out]; simp only []; rw [if_pos (by rw [hla2]; exact hc1)]))
          clear hlt
          go_wp2_with fail
          refine (rintq_bad rb _ 0 (la : Int) _ HR.out HBD.out v1 l1 HP1.out hc1).mono ?_
          rintro e w3 ⟨rfl, hR3, hg3⟩
          have HB3 := Lib.hid (show Below w.heap.size w w3 from grown_below hg3 HBW.out hrb)
          clear hR3 hg3 hc1
          go_wp2_with fail
          go_ret2
          exact .inr ⟨HNO.out, rfl, HB3.out⟩
        · obtain ⟨j, rfl⟩ : ∃ j : Nat, v1 = (j : Int) := ⟨v1.toNat, by omega⟩
          have hjla : j ≤ la := by omega
          have hja : j ≤ a.size := by omega
          have hl1 : 0 < l1 := by omega
          have hc1' := Lib.hid hc1
          obtain ⟨es, hes⟩ : ∃ es, es = ds.drop l1 := ⟨_, rfl⟩
          have HES := Lib.hid hes
          have HBE := Lib.hid (show bytes es by rw [hes]; exact bytes_drop' _ HBD.out)
          obtain ⟨v2, l2, hp2⟩ : ∃ v l, numP es = (v, l) := ⟨_, _, rfl⟩
          have HP2 := Lib.hid hp2
          have hv2 := (numP_len hp2).2.2
          have hl2z := (numP_len hp2).1
          obtain ⟨z, hz⟩ : ∃ z, z = es.length := ⟨_, rfl⟩
          have HZ := Lib.hid hz
          rw [← hz] at hl2z
          have hsl : ∀ W, Sem.run Try.prog (Instr.slice 9 (.string a) none (some (.int .i64 (j : Int))) none) W = .ok (.string (a.extract 0 j)) W := fun W => slice_to a j hja W
          have hx1 : (a.extract 0 j).size = j := by simp [ByteArray.size_extract]; omega
          clear hes hp2 hz hc1
          go_wp2_with fail
          refine (rintq_good rb _ 0 (la : Int) _ HR.out HBD.out (j : Int) l1 HP1.out hl1 (by omega) (by omega)).mono ?_
          rintro e w3 ⟨rfl, hR3, hg3⟩
          rw [← HES.out] at hR3
          have HR3 := Lib.hid hR3
          have HB3 := Lib.hid (show Below w.heap.size w w3 from grown_below hg3 HBW.out hrb)
          have HO3 := Lib.hid (own_other HO.out hg3 hlt1)
          have hsz3 : w1.heap.size ≤ w3.heap.size := Nat.le_trans hsz hg3.size
          clear hR3 hg3
          by_cases hc2 : l2 = 0 ∨ v2 < 0 ∨ 24 < v2 ∨ (z : Int) - l2 < v2
          · have HNO := Lib.hid (no_acc (show readD bs = none by
              rw [HRD.out]
              refine readL_fail k _ _ L ds HRL.out ?_ m hlt
              rw [← HAA.out]; unfold readT; rw [HP1.out]; simp only []; rw [if_neg (by rw [hla2]; exact hc1'.out), ← HES.out, HP2.out]; simp only []; rw [if_pos (by rw [← HZ.out]; exact hc2)]))
            clear hlt
            go_wp2_with fail
            refine (rtextq_bad rb _ 24 _ HR3.out HBE.out v2 l2 HP2.out (by rw [← HZ.out]; exact hc2)).mono ?_
            rintro e w4 ⟨rfl, hR4, hg4⟩
            have HB4 := Lib.hid (show Below w.heap.size w w4 from grown_below hg4 HB3.out hrb)
            clear hR4 hg4 hc2
            go_wp2_with fail
            go_ret2
            exact .inr ⟨HNO.out, rfl, HB4.out⟩
          · obtain ⟨t, rfl⟩ : ∃ t : Nat, v2 = (t : Int) := ⟨v2.toNat, by omega⟩
            have hl2 : 0 < l2 := by omega
            have ht24 : t ≤ 24 := by omega
            have hlt2 : l2 + t ≤ z := by omega
            obtain ⟨x, hx⟩ : ∃ x, x = strOfNums ((es.drop l2).take t) := ⟨_, rfl⟩
            have hx2 : x.size ≤ 24 := by rw [hx, str_size]; simp; omega
            obtain ⟨gs, hgs⟩ : ∃ gs, gs = es.drop (l2 + t) := ⟨_, rfl⟩
            obtain ⟨s, hs⟩ : ∃ s, s = a.extract 0 j ++ x := ⟨_, rfl⟩
            have hssz : s.size ≤ 24 * (k + 1) := by rw [hs, ByteArray.size_append, hx1]; omega
            have hgl : a.extract 0 j ++ x = s := hs.symm
            have HRT := Lib.hid (show readT (lastT ⟨#[]⟩ L) ds = some (s, gs) by
              rw [← HAA.out]; unfold readT; rw [HP1.out]; simp only []; rw [if_neg (by rw [hla2]; exact hc1'.out), ← HES.out, HP2.out]; simp only []; rw [if_neg (by rw [← HZ.out]; exact hc2), hs, hx, hgs]; simp)
            have HX := Lib.hid hx
            have HGS := Lib.hid hgs
            have HBG := Lib.hid (show bytes gs by rw [hgs]; exact bytes_drop' _ HBE.out)
            have HSZ5 := Lib.hid (show ∀ y ∈ L ++ [s], y.size ≤ 24 * (k + 1) by
              intro y hy
              rcases List.mem_append.1 hy with h | h
              · have := HSZ.out y h; omega
              · simp at h; rw [h]; exact hssz)
            have HLEN5 := Lib.hid (show (L ++ [s]).length = k + 1 by rw [List.length_append, HLEN.out]; rfl)
            have hlast5 : (lastT ⟨#[]⟩ (L ++ [s])).size ≤ 24 * (k + 1) := by rw [lastT_snoc]; exact hssz
            have HRL5 := Lib.hid (show readL (k + 1) ⟨#[]⟩ cs = some (L ++ [s], gs) from readL_snoc k _ _ L ds s gs HRL.out HRT.out)
            clear hx hgs hs hc2 hlt
            go_wp2_with fail
            refine (rtextq_good rb _ 24 _ HR3.out HBE.out t l2 HP2.out hl2 (by omega) (by rw [← HZ.out]; exact hlt2)).mono ?_
            rintro e w4 ⟨rfl, hR4, hg4⟩
            rw [← HX.out]
            rw [← HGS.out] at hR4
            have HR4 := Lib.hid hR4
            have HB4 := Lib.hid (show Below w.heap.size w w4 from grown_below hg4 HB3.out hrb)
            have HO4 := Lib.hid (own_other HO3.out hg4 hlt1)
            have hsz4 : w1.heap.size ≤ w4.heap.size := Nat.le_trans hsz3 hg4.size
            clear hR4 hg4
            go_wp2_with (at_builtin; refine wpList_append_own _ rfl _ _ 22 rfl w1.heap.size 9 i0 (.string ⟨#[]⟩) 1 16 Try.underlying22 hi0 hz0 hz1 hz2 rfl (by decide) _ _ _ rfl (HO4.out.alloc _) ⟨w4.heap.size, 0, none⟩ 1 1 [.string s] rfl rfl ?c1 ?c2 ?c3 ?c4 ?c5 ?_)
            case c1 => intro j u hj; match j, hj with | 0, hj => simp at hj; subst hj; simp [Addr.add]
            case c2 => intro u hu; simp at hu; subst hu; rfl
            case c3 => unfold maxLen; omega
            case c4 => omega
            case c5 => simp; omega
            intro v5 w5 ho5 hg5 _
            have hb45 : Below w1.heap.size w4 w5 := ((Below.refl _ w4).alloc hsz4 _).trans (grown_own (HO4.out.alloc _) hg5 (by simp; omega))
            have HO5 := Lib.hid (show w5.ownsRow w1.heap.size 9 1 v5 (k + 1) (texts (L ++ [s])) by rw [← texts_append]; exact ho5)
            have HR5 := Lib.hid (show Rq w5 rb gs from HR4.out.under hb45 hlt1)
            have HB5 := Lib.hid (show Below w.heap.size w w5 from HB4.out.trans (hb45.mono HB1.out.size))
            have HS5 := Lib.hid (show Value.string s = .string (lastT ⟨#[]⟩ (L ++ [s])) by rw [lastT_snoc])
            have hsz5 : w1.heap.size ≤ w5.heap.size := Nat.le_trans hsz4 hb45.size
            clear ho5 hg5 hb45 hgl hsl
            go_wp2_with fail
            go_roundw
            case rel => exact ⟨k + 1, L ++ [s], gs, by omega, by go_num, HS5.out, HO5, HR5, HB5, hsz5, HRL5, HBG, hlast5, HSZ5, HLEN5⟩
            case measure => simp [intOf]; omega
      · have hge : ¬ (k : Int) < (m : Int) := by omega
        obtain rfl : k = m := by omega
        obtain ⟨A9, c9, rfl, h1, h2, h3⟩ := own_slice HO.out
        have HR9 := Lib.hid h1
        have HRD2 := Lib.hid (HRD.out.trans HRL.out)
        clear hlt h1
        go_wp2_with fail
        refine (new_any A9 k c9 L _ HR9.out HLEN.out.symm (by omega) (fun s hs => by have := HSZ.out s hs; omega)).mono ?_
        rintro e w6 h
        rcases h with ⟨hgood, p, rfl, hp, hb⟩ | ⟨hbad, rfl, hb⟩
        case inr =>
          have HNO := Lib.hid (show ∀ D, ¬ acc bs D by
            rintro D ⟨L', ds', e1, e2, _⟩
            rw [HRD2.out] at e1
            simp at e1
            obtain ⟨rfl, rfl⟩ := e1
            exact hbad ⟨e2, by have h4 := dictL_len L; have h5 := HLEN.out; omega⟩)
          have HB6 := Lib.hid (bthen HBW.out hb)
          clear hb hbad
          go_wp2_with fail
          go_ret2
          exact .inr ⟨HNO.out, rfl, HB6.out⟩
        case inl =>
          obtain ⟨D, hD⟩ : ∃ D, D = dictL L := ⟨_, rfl⟩
          rw [← hD] at hp
          have HD := Lib.hid hD
          have HG := Lib.hid hgood
          have HP := Lib.hid hp
          have HB6 := Lib.hid (bthen HBW.out hb)
          have HS := Lib.hid (show ∀ s ∈ D, s.size ≤ 100 by rw [hD]; intro s hs; have := (HG.out.1 s ((dictL_mem L s).1 hs)).2; omega)
          have HBD2 := Lib.hid (bytesD_bytes D)
          clear hp hb hD hgood
          go_wp2_with fail
          refine (bytes_any p D _ HP.out (by rw [HD.out]; exact HG.out.2) HS.out).mono ?_
          rintro e w7 ⟨A7, c7, rfl, hr7, hc7, hn7, hb⟩
          have HB7 := Lib.hid (bthen HB6.out hb)
          have HP7 := Lib.hid (HP.out.keep hb)
          have HBI1 := Lib.hid (bytes_in hr7)
          have HBI2 := Lib.hid (bytes_in (HA.out.keep (Nat.le_refl _) HB7.out))
          clear hb hr7
          go_wp2_with fail
          refine (Try.bytes_Equal_all A7 A (bytesD D).length c7 n c (bytesD D) bs _ rfl HN.out.symm HBI1.out (by rw [HN.out]; exact HBI2.out)).mono ?_
          rintro e w8 ⟨rfl, rfl⟩
          by_cases heq : bytesD D = bs
          · have HAC := Lib.hid (show acc bs D from ⟨L, ds, HRD2.out, HG.out.1, by rw [← HD.out]; exact heq, HD.out⟩)
            have eqt : (Lib.bytesOf (bytesD D) == Lib.bytesOf bs) = true := by rw [heq]; simp
            rw [eqt]
            clear eqt heq
            go_wp2_with fail
            go_ret2
            exact .inl ⟨D, p, HAC.out, rfl, HP7.out, HB7.out⟩
          · have HNO := Lib.hid (show ∀ E, ¬ acc bs E by
              rintro E ⟨L', ds', e1, e2, e3, _⟩
              rw [HRD2.out] at e1
              simp at e1
              obtain ⟨rfl, rfl⟩ := e1
              exact heq (by rw [HD.out]; exact e3))
            have eqf : (Lib.bytesOf (bytesD D) == Lib.bytesOf bs) = false := by
              rw [beq_eq_false_iff_ne]
              exact fun h => heq (bytesOf_inj HBD2.out HBY.out h)
            rw [eqf]
            clear eqf heq
            go_wp2_with fail
            go_ret2
            exact .inr ⟨HNO.out, rfl, HB7.out⟩
end Go.Proofs.Ytgegmbkjkiifaaa
