/- SchemaChecks' walk. -/
import Derived.Test.YtbecgknahhhfiaaY
namespace Go.Proofs.Ytbecgknahhhfiaa
open Go.RowKit
set_option linter.unusedSimpArgs false
set_option linter.unusedVariables false
theorem sub_names {l L M : List ByteArray} (h : namesP (L ++ M)) : subsetP l L ↔ l.Sublist L := by
  refine ⟨fun k => k.2, fun k => ⟨⟨fun s hs => h.1 s (List.mem_append_left _ (k.subset hs)), ?_⟩, k⟩⟩
  have ha : apartP L := apart_left h.2
  have : L.Pairwise (· ≠ ·) := List.pairwise_iff_getElem.2 fun i j hi hj hij => ha i j hij hj
  have h2 := List.Pairwise.sublist k this
  exact fun i j hij hj => List.pairwise_iff_getElem.1 h2 i j (by omega) hj hij
theorem refsubset_b (A B : Option Addr) (n c m d : Nat) (L M : List ByteArray) (w : World) (hA : Row w A (texts L)) (hB : Row w B (texts M)) (hn : n = L.length) (hm : m = M.length)
    (hn2 : n ≤ 9223372036854775807) (hm2 : m ≤ 9223372036854775807) (ha : apartP M) (r : Bool) (hr : r = true ↔ L.Sublist M) :
    Calls Try.prog 13 #[.slice A n c, .slice B m d] w fun e w' => e = .returned (.bool r) ∧ Below w.heap.size w w' :=
  (refsubset_any A B n c m d L M w hA hB hn hm hn2 hm2 ha r hr).mono fun e w' h => ⟨h.1, h.2 ▸ Below.refl _ _⟩
set_option maxRecDepth 100000 in
set_option maxHeartbeats 8000000 in
theorem checks_walk (A B E F G : Option Addr) (n c m d p q x y g h : Nat) (t : Int) (L M D K : List ByteArray) (X : List Int) (w : World) (hA : Row w A (texts L)) (hB : Row w B (texts M)) (hE : Row w E (texts D)) (hF : Row w F (X.map (Value.int .i64))) (hG : Row w G (texts K))
    (hn : n = L.length) (hm : m = M.length) (hp : p = D.length) (hx : x = X.length) (hg : g = K.length) (hnc : n ≤ c) (hmd : m ≤ d) (hgh : g ≤ h) (ha : A = none → c = 0) (hb : B = none → d = 0)
    (hL : ∀ s ∈ L, s.size ≤ 9223372036854775807) (hM : ∀ s ∈ M, s.size ≤ 9223372036854775807) (hD : ∀ s ∈ D, s.size ≤ 9223372036854775807) (hK : ∀ s ∈ K, s.size ≤ 9223372036854775807)
    (hc2 : c ≤ 9223372036854775807) (hp2 : p ≤ 9223372036854775807) (hx2 : x ≤ 9223372036854775807) (hh2 : h ≤ 9223372036854775807) (hm2 : m * 16 ≤ 140737488351232) :
    Calls Try.prog 3 #[.agg #[.slice A n c, .slice B m d], .agg #[.int .i64 t, .slice E p q, .slice F x y], .slice G g h] w fun e w' => e = .returned (.bool true) ∧ Below w.heap.size w w' := by
  have HN := Lib.hid hn
  have HM := Lib.hid hm
  have HP := Lib.hid hp
  have HX := Lib.hid hx
  have HG := Lib.hid hg
  have Ha := Lib.hid ha
  have Hb := Lib.hid hb
  have HL := Lib.hid hL
  have HLM := Lib.hid hM
  have HD := Lib.hid hD
  have HLK := Lib.hid hK
  obtain ⟨f1, hf1⟩ := bool_of (fitsP L)
  obtain ⟨f2, hf2⟩ := bool_of (fitsP D)
  obtain ⟨f3, hf3⟩ := bool_of (fitsP K)
  obtain ⟨r, hr⟩ := bool_of (rightP L M)
  obtain ⟨v, hv⟩ := check_ex L M D X t
  obtain ⟨b, hbb⟩ := bool_of (subsetP K L)
  have HF1 := Lib.hid hf1
  have HF2 := Lib.hid hf2
  have HF3 := Lib.hid hf3
  have HR := Lib.hid hr
  have HV := Lib.hid hv
  have HBB := Lib.hid hbb
  have HRP := Lib.hid (show r = true → rightP L M from hr.1)
  have HN20 := Lib.hid (show f1 = true → n ≤ 20 from fun e => by have := (hf1.1 e).1; omega)
  have bel : ∀ o1 o2, Below w.heap.size w ((w.alloc o1).alloc o2) := fun o1 o2 => bthen (bpush (Below.refl _ _) _) (bpush (Below.refl _ _) _)
  obtain ⟨W1, hW1⟩ : ∃ W1, W1 = ((w.alloc (.cells #[.slice A n c, .slice B m d] 24)).alloc (.cells #[.int .i64 t, .slice E p q, .slice F x y] 27)) := ⟨_, rfl⟩
  have hb1 : Below w.heap.size w W1 := by rw [hW1]; exact bel _ _
  have HA := Lib.hid (hA.keep (Nat.le_refl _) hb1)
  have HB := Lib.hid (hB.keep (Nat.le_refl _) hb1)
  have HE := Lib.hid (hE.keep (Nat.le_refl _) hb1)
  have HF := Lib.hid (hF.keep (Nat.le_refl _) hb1)
  have HGr := Lib.hid (hG.keep (Nat.le_refl _) hb1)
  have s0 : W1.cell? ⟨w.heap.size, 0, none⟩ = some (.slice A n c) := by rw [hW1]; simp
  have s1 : W1.cell? ⟨w.heap.size, 1, none⟩ = some (.slice B m d) := by rw [hW1]; simp
  have c0 : W1.cell? ⟨w.heap.size + 1, 0, none⟩ = some (.int .i64 t) := by rw [hW1]; exact cell_made (by simp) rfl
  have c1 : W1.cell? ⟨w.heap.size + 1, 1, none⟩ = some (.slice E p q) := by rw [hW1]; exact cell_made (by simp) rfl
  have c2 : W1.cell? ⟨w.heap.size + 1, 2, none⟩ = some (.slice F x y) := by rw [hW1]; exact cell_made (by simp) rfl
  have HB1 := Lib.hid hb1
  have HW1 := Lib.hid hW1
  clear hA hB hE hF hG hn hm hp hx hg ha hb hL hM hD hK hf1 hf2 hf3 hr hv hbb bel hW1 hb1
  go_enter Try.func3, Try.ntmps3
  go_wp2_with fail
  rw [← HW1.out]
  refine (fits_any A n c L _ HA.out HN.out (by omega) f1 HF1.out).mono ?_
  rintro e w1 ⟨rfl, rfl⟩
  go_wp2_with fail
  refine (fits_any E p q D _ HE.out HP.out hp2 f2 HF2.out).mono ?_
  rintro e w1 ⟨rfl, rfl⟩
  go_wp2_with fail
  refine (fits_any G g h K _ HGr.out HG.out (by omega) f3 HF3.out).mono ?_
  rintro e w1 ⟨rfl, rfl⟩
  cases f1 with
  | false =>
    go_wp2_with fail
    refine (alive_any _).mono ?_
    rintro e w1 ⟨rfl, hb⟩
    go_wp2_with fail
    go_ret
    exact ⟨rfl, bthen HB1.out hb⟩
  | true =>
  cases f2 with
  | false =>
    go_wp2_with fail
    refine (alive_any _).mono ?_
    rintro e w1 ⟨rfl, hb⟩
    go_wp2_with fail
    go_ret
    exact ⟨rfl, bthen HB1.out hb⟩
  | true =>
  cases f3 with
  | false =>
    go_wp2_with fail
    refine (alive_any _).mono ?_
    rintro e w1 ⟨rfl, hb⟩
    go_wp2_with fail
    go_ret
    exact ⟨rfl, bthen HB1.out hb⟩
  | true =>
  have hn20 : n ≤ 20 := HN20.out rfl
  go_wp2_with fail
  refine (refright_any A B n c m d L M _ HA.out HB.out HN.out HM.out hnc hmd Ha.out Hb.out HL.out HLM.out hn20 hm2 r HR.out).mono ?_
  rintro e w1 ⟨rfl, hb⟩
  have HB2 := Lib.hid hb
  obtain ⟨t0, t1, d0, d1, d2⟩ : w1.cell? ⟨w.heap.size, 0, none⟩ = some (.slice A n c) ∧ w1.cell? ⟨w.heap.size, 1, none⟩ = some (.slice B m d) ∧ w1.cell? ⟨w.heap.size + 1, 0, none⟩ = some (.int .i64 t) ∧ w1.cell? ⟨w.heap.size + 1, 1, none⟩ = some (.slice E p q) ∧ w1.cell? ⟨w.heap.size + 1, 2, none⟩ = some (.slice F x y) :=
    ⟨cell_on hb s0, cell_on hb s1, cell_on hb c0, cell_on hb c1, cell_on hb c2⟩
  clear hb s0 s1 c0 c1 c2
  cases r with
  | false =>
    go_wp2_with fail
    refine (alive_any _).mono ?_
    rintro e w2 ⟨rfl, hb⟩
    go_wp2_with fail
    go_ret
    exact ⟨rfl, bthen HB1.out (bthen HB2.out hb)⟩
  | true =>
  have hrp := HRP.out rfl
  have HNL := Lib.hid hrp.2.2.2
  have HNA := Lib.hid (apart_left hrp.2.2.2.2)
  clear hrp
  have HBR := Lib.hid (show b = true ↔ K.Sublist L from HBB.out.trans (sub_names HNL.out))
  by_cases h20 : 20 < x
  · have e1 : decide ((20 : Int) < (x : Int)) = true := by simp; omega
    clear h20
    go_wp2_with fail
    refine (alive_any _).mono ?_
    rintro e w2 ⟨rfl, hb⟩
    go_wp2_with fail
    go_ret
    exact ⟨rfl, bthen HB1.out (bthen HB2.out hb)⟩
  have e1 : decide ((20 : Int) < (x : Int)) = false := by simp; omega
  clear h20
  go_wp2_with fail
  go_region_held3 (fun w' => (w'.cell? ⟨w.heap.size, 0, none⟩ = some (.slice A n c) ∧ w'.cell? ⟨w.heap.size, 1, none⟩ = some (.slice B m d) ∧ w'.cell? ⟨w.heap.size + 1, 0, none⟩ = some (.int .i64 t) ∧ w'.cell? ⟨w.heap.size + 1, 1, none⟩ = some (.slice E p q) ∧ w'.cell? ⟨w.heap.size + 1, 2, none⟩ = some (.slice F x y)) ∧ Below W1.heap.size W1 w')
    (first
      | (go_split_ands
         exact ⟨⟨cell_on hb (by assumption), cell_on hb (by assumption), cell_on hb (by assumption), cell_on hb (by assumption), cell_on hb (by assumption)⟩, bthen (by assumption) hb⟩)
      | exact ⟨⟨t0, t1, d0, d1, d2⟩, below_drewN HB2.out 1⟩)
    (first
      | (go_at_call 9; refine (alive_any _).mono ?_; rintro e w6 ⟨rfl, hb⟩)
      | (go_at_call 10; refine (check_any A B E F n c m d p q x y t L M D X _ (HE.out.keep (Nat.le_refl _) (by go_split_ands; assumption)) (HF.out.keep (Nat.le_refl _) (by go_split_ands; assumption)) HN.out HM.out HP.out HX.out HD.out hp2 hx2 v HV.out).mono ?_; rintro e w6 ⟨rfl, hb⟩)
      | (go_at_call 11; refine (refcheck_any A B E F n c m d p q x y t L M D X _ (HE.out.keep (Nat.le_refl _) (by go_split_ands; assumption)) (HF.out.keep (Nat.le_refl _) (by go_split_ands; assumption)) HN.out HM.out HP.out HX.out HD.out hp2 hx2 v HV.out).mono ?_; rintro e w6 ⟨rfl, hb⟩)
      | (go_at_call 12; refine (subset_any G A g h n c K L _ (HGr.out.keep (Nat.le_refl _) (by go_split_ands; assumption)) (HA.out.keep (Nat.le_refl _) (by go_split_ands; assumption)) HG.out HN.out hgh hnc HLK.out (by omega) hc2 b HBB.out).mono ?_; rintro e w6 ⟨rfl, hb⟩)
      | (go_at_call 13; refine (refsubset_b G A g h n c K L _ (HGr.out.keep (Nat.le_refl _) (by go_split_ands; assumption)) (HA.out.keep (Nat.le_refl _) (by go_split_ands; assumption)) HG.out HN.out (by omega) (by omega) HNA.out b HBR.out).mono ?_; rintro e w6 ⟨rfl, hb⟩))
  have hfin : Below W1.heap.size W1 w6 := by go_split_ands; assumption
  have HFIN := Lib.hid hfin
  clear hfin hb t0 t1 d0 d1 d2
  go_wp2_with fail
  go_ret
  exact ⟨by simp, bthen HB1.out HFIN.out⟩
end Go.Proofs.Ytbecgknahhhfiaa
