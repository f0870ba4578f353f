/- CuboidParts. -/
import Derived.Test.YtkfcpmmiimpkbaaCP
namespace Go.Proofs.Ytkfcpmmiimpkbaa
open Go.RowKit Go.Shelf
set_option linter.unusedSimpArgs false
set_option linter.unusedVariables false
theorem plc_uniq {L M : List ByteArray} {I J : List Nat} (h : PlcIs L M I) (h' : PlcIs L M J) (hl : I.length = M.length) (hl' : J.length = M.length) (ha : apartP L) : I = J := by
  apply List.ext_getElem
  · omega
  · intro i h1 h2
    obtain ⟨a1, e1⟩ := h.2 i h1 (by omega)
    obtain ⟨a2, e2⟩ := h'.2 i h2 (by omega)
    rcases Nat.lt_trichotomy I[i] J[i] with c | c | c
    · exact absurd (e1.trans e2.symm) (ha _ _ c a2)
    · exact c
    · exact absurd (e2.trans e1.symm) (ha _ _ c a1)
/-- What a projection into right buckets tells of itself. -/
def OutP (g : Int) (L M : List ByteArray) (K O : List RV) (x : Int) : Prop := (¬ subsetP M L ∧ x = 141 ∧ O = []) ∨ (subsetP M L ∧ ∃ I K', PlcIs L M I ∧ I.length = M.length ∧ SortsTo (K.map (projR g I)) K' ∧ foldL K' = (O, x))
theorem proj_out {w w' : World} {g : Int} {L M : List ByteArray} {Z : List RZ} {e : Ending} (h : ProjPost w g L M Z e w') (hg : okGran g) : ∃ A n c Y x, e = .returned (.tuple #[.slice A n c, .int .i64 x]) ∧ n = Y.length ∧ RowsC w' A Y ∧ n ≤ Z.length ∧ n ≤ c ∧ (A = none → c = 0) ∧ OutP g L M (Z.map Prod.snd) (Y.map Prod.snd) x ∧ Below w.heap.size w w' := by
  rcases h with ⟨hs, rfl, hb⟩ | ⟨_, h1, _⟩ | ⟨hs, _, I, hI, hl, A, n, c, Y, x, K', rfl, rfl, ht, hf, hC, hnc, h9, hb⟩
  · exact ⟨none, 0, 0, [], 141, rfl, rfl, ⟨.inl rfl, (fun y hy => by cases hy)⟩, Nat.zero_le _, Nat.le_refl _, (fun _ => rfl), .inl ⟨hs, rfl, rfl⟩, hb⟩
  · exact absurd hg h1
  · have hlen : Y.length ≤ Z.length := by
      have h1 := foldF_len K'.length K'
      have h2 := ht.perm.length_eq
      rw [List.length_map] at h2
      have h3 : (foldF K'.length K').1 = Y.map Prod.snd := congrArg Prod.fst hf
      rw [h3, List.length_map] at h1; omega
    exact ⟨A, _, c, Y, x, rfl, rfl, hC, hlen, hnc.1, hnc.2, .inr ⟨hs, I, K', hI, hl, by rw [List.map_map]; exact ht, hf⟩, hb⟩
theorem stay_map (st : Int → Bool) (Z : List RZ) : (stay st Z).map Prod.snd = (Z.map Prod.snd).filter fun r => st r.t := by
  unfold stay; rw [List.filter_map]; rfl
theorem stay_le (st : Int → Bool) (Z : List RZ) : (stay st Z).length ≤ Z.length := List.length_filter_le _ _
theorem split_out {w w' : World} {x : Int} {Z : List RZ} {e : Ending} (h : SplitPost w x Z e w') : ∃ A n c A2 n2 c2 Y Y2, e = .returned (.tuple #[.slice A n c, .slice A2 n2 c2]) ∧ n = Y.length ∧ n2 = Y2.length ∧ n ≤ Z.length ∧ n2 ≤ Z.length ∧ RowsC w' A Y ∧ RowsC w' A2 Y2 ∧ (Y.map Prod.snd = (Z.map Prod.snd).filter fun r => decide (r.t < x)) ∧ (Y2.map Prod.snd = (Z.map Prod.snd).filter fun r => decide (x ≤ r.t)) ∧ Below w.heap.size w w' := by
  obtain ⟨A, n, c, A2, n2, c2, Y, Y2, rfl, rfl, rfl, h1, h2, _, _, h3, h4, hb⟩ := h
  have l1 := congrArg List.length h3
  have l2 := congrArg List.length h4
  rw [List.length_map, List.length_map] at l1 l2
  exact ⟨A, _, c, A2, _, c2, Y, Y2, rfl, l1.symm, l2.symm, stay_le _ _, stay_le _ _, h1, h2, by rw [h3, stay_map], by rw [h4, stay_map], hb⟩
theorem and1023 (m : Int) : ∃ q : Nat, q ≤ 1023 ∧ bits .and .i64 m 1023 = (q : Int) := by
  refine ⟨(BitVec.ofInt 64 m &&& BitVec.ofInt 64 1023).toNat, ?_, ?_⟩
  · have h : (BitVec.ofInt 64 m &&& BitVec.ofInt 64 1023).toNat ≤ 1023 := by rw [BitVec.toNat_and]; exact Nat.and_le_right
    exact h
  · have h : (BitVec.ofInt 64 m &&& BitVec.ofInt 64 1023).toNat ≤ 1023 := by rw [BitVec.toNat_and]; exact Nat.and_le_right
    show IntKind.i64.wrap ((BitVec.ofInt 64 m &&& BitVec.ofInt 64 1023).toNat : Int) = _
    exact IntWalk.i64_in _ (by omega)
theorem cut_time {g : Int} (f : Int) (h1 : 1 ≤ g) (h2 : g ≤ 1000) : ∃ a : Int, wrap64 (g * bits .and .i64 f 1023) = g * a := by
  obtain ⟨q, hq, e⟩ := and1023 f
  refine ⟨(q : Int), ?_⟩
  rw [e]
  have h3 : 0 ≤ g * (q : Int) := Int.mul_nonneg (by omega) (by omega)
  have h4 : g * (q : Int) ≤ 1000 * 1023 := Int.mul_le_mul h2 (by omega) (by omega) (by omega)
  unfold wrap64; omega
theorem parts_out {q : Nat} {g a : Int} {L M : List ByteArray} {J O1 O2 O : List RV} {x1 x2 x : Int} (hg : okGran g) (hL : apartP L) (hJ : ∀ r ∈ J, OkR q r)
    (h1 : OutP g L M (J.filter fun r => decide (r.t < g * a)) O1 x1) (h2 : OutP g L M (J.filter fun r => decide (g * a ≤ r.t)) O2 x2) (h : OutP g L M J O x) : (x = 0 ↔ x1 = 0 ∧ x2 = 0) ∧ (x1 = 0 → x2 = 0 → O = O1 ++ O2) := by
  rcases h with ⟨hs, rfl, rfl⟩ | ⟨hs, I, K, hI, hl, ht, hf⟩
  · rcases h1 with ⟨_, rfl, rfl⟩ | ⟨hs', _⟩
    · exact ⟨by simp, fun h => by cases h⟩
    · exact absurd hs' hs
  rcases h1 with ⟨hs', _⟩ | ⟨_, I1, K1, hI1, hl1, ht1, hf1⟩
  · exact absurd hs hs'
  rcases h2 with ⟨hs', _⟩ | ⟨_, I2, K2, hI2, hl2, ht2, hf2⟩
  · exact absurd hs hs'
  obtain rfl := plc_uniq hI hI1 hl hl1 hL
  obtain rfl := plc_uniq hI hI2 hl hl2 hL
  have e1 : (J.filter fun r => decide (r.t < g * a)).map (projR g I) = (J.map (projR g I)).filter fun r => decide (r.t < g * a) := by
    rw [List.filter_map]; congr 1
    exact List.filter_congr fun r _ => by
      show decide (r.t < g * a) = decide (flr r.t g < g * a)
      rw [decide_eq_decide]; exact (flr_side hg.1).symm
  have e2 : (J.filter fun r => decide (g * a ≤ r.t)).map (projR g I) = (J.map (projR g I)).filter fun r => decide (g * a ≤ r.t) := by
    rw [List.filter_map]; congr 1
    exact List.filter_congr fun r _ => by
      show decide (g * a ≤ r.t) = decide (g * a ≤ flr r.t g)
      rw [decide_eq_decide]; have := flr_side (t := r.t) (a := a) hg.1; omega
  have hap : Apart (g * a) K1 K2 := by
    refine ⟨fun y hy => ?_, fun y hy => ?_⟩
    · have := ht1.mem hy; rw [e1] at this; have := (List.mem_filter.1 this).2; simpa using this
    · have := ht2.mem hy; rw [e2] at this; have := (List.mem_filter.1 this).2; simpa using this
  have hall := sorts_parts ht1 ht2 hap e1 e2
  obtain rfl := ht.uniq hall
  refine folds_parts (q := q) hap ht.sorted (fun y hy => ?_) hf1 hf2 hf
  obtain ⟨r, hr, rfl⟩ := List.mem_map.1 (ht.mem hy)
  have := hJ r hr
  exact ⟨this.lo, this.hi, this.len, this.aggs⟩
set_option maxRecDepth 100000 in
set_option maxHeartbeats 16000000 in
theorem parts_walk (A B C E : Option Addr) (n c m d k cap p pc : Nat) (g f u : Int) (L M T : List ByteArray) (Z : List RZ) (w : World) (hA : Row w A (texts L)) (hB : Row w B (texts M)) (hC : Row w C (cellsR Z)) (hE : Row w E (texts T)) (hgd : ∀ z ∈ Z, Good0 w z) (hn : n = L.length) (hm : m = M.length) (hk : k = Z.length) (hp : p = T.length) (hnc : n ≤ c) (hmd : m ≤ d) (hpc : p ≤ pc) (ha : A = none → c = 0) (hb : B = none → d = 0) (he : E = none → pc = 0)
    (hL : ∀ s ∈ L, s.size ≤ 9223372036854775807) (hM : ∀ s ∈ M, s.size ≤ 9223372036854775807) (hT : ∀ s ∈ T, s.size ≤ 9223372036854775807) (hc2 : c ≤ 9223372036854775807) (hn2 : n ≤ 9223372036854775807) (hm2 : m ≤ 9223372036854775807) (hp2 : p ≤ 9223372036854775807) (hk2 : k ≤ 9223372036854775807) (hsz : ∀ z ∈ Z, ∀ s ∈ z.2.dims, s.size ≤ 9223372036854775807) :
    Calls Try.prog 5 #[.agg #[.slice A n c, .slice B m d], .slice C k cap, .agg #[.slice E p pc, .int .i64 g, .int .i64 f, .int .i64 u]] w fun e w' => e = .returned (.bool true) ∧ Below w.heap.size w w' := by
  obtain ⟨W1, hW1⟩ : ∃ W1, W1 = (w.alloc (.cells #[.slice A n c, .slice B m d] 24)).alloc (.cells #[.slice E p pc, .int .i64 g, .int .i64 f, .int .i64 u] 27) := ⟨_, rfl⟩
  have hb0 : Below w.heap.size w (w.alloc (.cells #[.slice A n c, .slice B m d] 24)) := bpush (Below.refl _ _) _
  have hb1 : Below w.heap.size w W1 := by rw [hW1]; exact bpush hb0 _
  have HB1 := Lib.hid hb1
  have hbb : Below (w.alloc (.cells #[.slice A n c, .slice B m d] 24)).heap.size (w.alloc (.cells #[.slice A n c, .slice B m d] 24)) W1 := by rw [hW1]; exact bpush (Below.refl _ _) _
  have s0 : W1.cell? ⟨w.heap.size, 0, none⟩ = some (.slice A n c) := cell_on hbb (cell_made rfl rfl)
  have s1 : W1.cell? ⟨w.heap.size, 1, none⟩ = some (.slice B m d) := cell_on hbb (cell_made rfl rfl)
  have r0 : W1.cell? ⟨w.heap.size + 1, 0, none⟩ = some (.slice E p pc) := by rw [hW1]; exact cell_made (by simp) rfl
  have r1 : W1.cell? ⟨w.heap.size + 1, 1, none⟩ = some (.int .i64 g) := by rw [hW1]; exact cell_made (by simp) rfl
  have r2 : W1.cell? ⟨w.heap.size + 1, 2, none⟩ = some (.int .i64 f) := by rw [hW1]; exact cell_made (by simp) rfl
  have HS01 := Lib.hid (And.intro s0 (And.intro s1 (And.intro r0 (And.intro r1 r2))))
  obtain ⟨r, hr⟩ := bool_of (fitsRows L M (Z.map Prod.snd))
  have HR := Lib.hid hr
  have HFT := Lib.hid (fitsrows_any A B C n c m d k cap L M Z W1 (hA.keep (Nat.le_refl _) hb1) (hB.keep (Nat.le_refl _) hb1) (hC.keep (Nat.le_refl _) hb1) (fun z hz => (hgd z hz).keep hb1) hn hm hk hnc hmd ha hb hL hM hn2 hm2 hk2 hsz r hr)
  have HA := Lib.hid (hA.keep (Nat.le_refl _) hb1)
  have HC := Lib.hid (hC.keep (Nat.le_refl _) hb1)
  have HE := Lib.hid (hE.keep (Nat.le_refl _) hb1)
  have HGD := Lib.hid (fun z hz => (hgd z hz).keep hb1)
  obtain ⟨b, hbt⟩ := bool_of (fitsP T)
  have HBT := Lib.hid hbt
  have HF7 := Lib.hid (show ∀ W, Below W1.heap.size W1 W → Calls Try.prog 7 #[.slice E p pc] W fun e w' => e = .returned (.bool b) ∧ W = w' from fun W hW => fits_any E p pc T W (HE.out.keep (Nat.le_refl _) hW) hp hp2 b hbt)
  have HN := Lib.hid hn
  have HNC := Lib.hid hnc
  have HC2 := Lib.hid hc2
  have HL := Lib.hid hL
  have HT := Lib.hid hT
  have HK := Lib.hid hk
  have HP := Lib.hid hp
  have HPC := Lib.hid hpc
  have HW1 := Lib.hid hW1
  clear hA hB hC hE hgd hn hm hk hp hnc hmd hpc ha hb he hL hM hT hc2 hn2 hm2 hp2 hk2 hsz hr hW1 hb1 hb0 hbb hbt
  go_enter Try.func5, Try.ntmps5
  go_upto_region 1 with fail
  rw [← HW1.out]
  go_upto_region 2 with (go_at_call 6; refine HFT.out.mono ?_; rintro e w1 ⟨rfl, hb⟩)
  have HBW := Lib.hid hb
  clear hb HFT s0 s1 r0 r1 r2
  have s0 := cell_on HBW.out HS01.out.1
  have s1 := cell_on HBW.out HS01.out.2.1
  have r0 := cell_on HBW.out HS01.out.2.2.1
  have r1 := cell_on HBW.out HS01.out.2.2.2.1
  have r2 := cell_on HBW.out HS01.out.2.2.2.2
  go_upto_region 3 with (go_at_call 7; refine (HF7.out _ HBW.out).mono ?_; rintro e w2 ⟨rfl, rfl⟩)
  clear HF7
  by_cases hok : r = true ∧ b = true ∧ 1 ≤ g ∧ g ≤ 1000
  case neg =>
    have hng : r = false ∨ (r = true ∧ b = false) ∨ (r = true ∧ b = true ∧ g < 1) ∨ (r = true ∧ b = true ∧ ¬ (g < 1) ∧ 1000 < g) := by
      cases r
      · exact .inl rfl
      · cases b
        · exact .inr (.inl ⟨rfl, rfl⟩)
        · simp at hok; simp; omega
    clear hok HR HBT HS01 HA HC HE HGD HN HNC HC2 HL HT HK HP HPC HW1
    rcases hng with rfl | ⟨rfl, rfl⟩ | ⟨rfl, rfl, hg⟩ | ⟨rfl, rfl, hg0, hg⟩
    all_goals
      go_wp2_with (go_at_call 8; refine (alive_any _).mono ?_; rintro e w3 ⟨rfl, hb⟩; have HB3 := Lib.hid hb; clear hb)
      go_ret
      exact ⟨rfl, bthen HB1.out (bthen HBW.out HB3.out)⟩
  case pos =>
  obtain ⟨rfl, rfl, hg1, hg2⟩ := hok
  have hg3 : ¬ (g < 1) := by omega
  have hg4 : ¬ (1000 < g) := by omega
  have hgr : okGran g := ⟨by omega, by omega⟩
  have hft := HR.out.1 rfl
  have hk120 : k ≤ 120 := by have := hft.2.2.1; rw [List.length_map] at this; have := HK.out; omega
  have hkz : Z.length ≤ 120 := by have := HK.out; omega
  have hn20 : L.length ≤ 1000000 := by have := hft.1.1; omega
  have hm20 : M.length ≤ 1000000 := by have := hft.2.1.1; omega
  have hp20 : p ≤ 1000000 := by have := (HBT.out.1 rfl).1; have := HP.out; omega
  have hnm : namesP L := names_left hft.2.2.2.1.2.2.2
  have hro : ∀ z ∈ Z, rowOk L.length M.length z.2.t z.2.count z.2.dims z.2.aggs := fun z hz => hft.2.2.2.2 z.2 (List.mem_map.2 ⟨z, hz, rfl⟩)
  have hq : ∀ z ∈ Z, RowQ M.length L.length z.2 := fun z hz => rowok_q (hro z hz)
  have hqm : ∀ a ∈ Z.map Prod.snd, OkR M.length a := fun a ha => by obtain ⟨z, hz, rfl⟩ := List.mem_map.1 ha; exact (hq z hz).ok
  have hC1 : RowsC W1 C Z := ⟨HC.out, fun z hz => (HGD.out z hz).good (by rw [(hq z hz).dims]; exact hn20) (by rw [(hq z hz).ok.len]; exact hm20)⟩
  have hzr : ∀ r ∈ Z.map Prod.snd, r.dims.length = L.length ∧ 0 ≤ r.t ∧ r.t ≤ 1099511627776 ∧ 0 ≤ r.count ∧ r.count ≤ 1048576 := fun r hr => by
    obtain ⟨z, hz, rfl⟩ := List.mem_map.1 hr
    exact ⟨(hq z hz).dims, (hro z hz).2.2.1, (hro z hz).2.2.2.1, (hq z hz).ok.lo, (hq z hz).ok.hi⟩
  have HZR := Lib.hid (show ∀ Y : List RZ, (∀ r ∈ Y.map Prod.snd, r ∈ Z.map Prod.snd) → ∀ y ∈ Y, y.2.dims.length = L.length ∧ 0 ≤ y.2.t ∧ y.2.t ≤ 1099511627776 ∧ 0 ≤ y.2.count ∧ y.2.count ≤ 1048576 from fun Y h y hy => hzr _ (h _ (List.mem_map.2 ⟨y, hy, rfl⟩)))
  have HPJ := Lib.hid (show ∀ (W : World) (A' : Option Addr) (k' c' : Nat) (Y : List RZ), Below W1.heap.size W1 W → RowsC W A' Y → k' = Y.length → k' ≤ Z.length → (∀ r ∈ Y.map Prod.snd, r ∈ Z.map Prod.snd) → Calls Try.prog 9 #[.agg #[.slice A n c, .slice B m d], .slice A' k' c', .slice E p pc, .int .i64 g] W (ProjPost W g L T Y) from fun W A' k' c' Y hW hY hk' hkl hr =>
    project_any A B A' E n c m d k' c' p pc g L T Y W (HA.out.keep (Nat.le_refl _) hW) HN.out HNC.out (by have := HN.out; omega) HC2.out hY hk' (by omega) (HE.out.keep (Nat.le_refl _) hW) HP.out HPC.out hp20 HT.out (HZR.out Y hr))
  obtain ⟨a, hat⟩ := cut_time f hg1 hg2
  have HSP := Lib.hid (split_any C k cap (g * a) Z w1 (hC1.keep HBW.out) HK.out (by omega))
  have HPO := Lib.hid (show ∀ O1 O2 O x1 x2 x, OutP g L T ((Z.map Prod.snd).filter fun r => decide (r.t < g * a)) O1 x1 → OutP g L T ((Z.map Prod.snd).filter fun r => decide (g * a ≤ r.t)) O2 x2 → OutP g L T (Z.map Prod.snd) O x → _ from fun O1 O2 O x1 x2 x h1 h2 h => parts_out hgr hnm.2 hqm h1 h2 h)
  have HC1 := Lib.hid hC1
  have HGR := Lib.hid hgr
  have HKZ := Lib.hid hkz
  clear hft hkz hn20 hm20 hp20 hnm hro hq hqm hC1 hzr hgr HR HBT HZR
  go_upto_region 6 with fail
  rw [hat]
  clear hat
  obtain ⟨ta, hta⟩ : ∃ ta, ta = g * a := ⟨_, rfl⟩
  rw [← hta] at HSP HPO ⊢
  clear hta
  go_upto_region 7 with (go_at_call 17; refine HSP.out.mono ?_; rintro e w2 h2; obtain ⟨A1, n1, c1, A2, n2, c2, Y1, Y2, rfl, e1, e2, l1, l2, hY1, hY2, m1, m2, hb⟩ := split_out h2; have HY1 := Lib.hid hY1; have HY2 := Lib.hid hY2; have HM1 := Lib.hid m1; have HM2 := Lib.hid m2; have HN1 := Lib.hid e1; have HN2 := Lib.hid e2; have HL1 := Lib.hid l1; have HL2 := Lib.hid l2; have HB2 := Lib.hid hb; clear e1 e2 l1 l2 hY1 hY2 m1 m2 hb h2)
  have HBW2 := Lib.hid (bthen HBW.out HB2.out)
  clear s0 s1 r0 r1 r2 HSP
  have s0 := cell_on HBW2.out HS01.out.1
  have s1 := cell_on HBW2.out HS01.out.2.1
  have r0 := cell_on HBW2.out HS01.out.2.2.1
  have r1 := cell_on HBW2.out HS01.out.2.2.2.1
  have HQ1 := Lib.hid (HPJ.out w2 A1 n1 c1 Y1 HBW2.out HY1.out HN1.out HL1.out (fun r hr => by rw [HM1.out] at hr; exact (List.mem_filter.1 hr).1))
  go_upto_region 8 with (go_at_call 9; refine HQ1.out.mono ?_; rintro e w3 h3; obtain ⟨A3, n3, c3, Y3, x3, rfl, e3, hY3, l3, d3, a3, o3, hb⟩ := proj_out h3 HGR.out; have HY3 := Lib.hid hY3; have HN3 := Lib.hid e3; have HL3 := Lib.hid (Nat.le_trans l3 (Nat.le_of_eq HN1.out.symm)); have HD3 := Lib.hid d3; have HA3 := Lib.hid a3; have HO3 := Lib.hid o3; have HB3 := Lib.hid hb; clear e3 hY3 l3 d3 a3 o3 hb h3)
  have HBW3 := Lib.hid (bthen HBW2.out HB3.out)
  clear s0 s1 r0 r1 HQ1
  have s0 := cell_on HBW3.out HS01.out.1
  have s1 := cell_on HBW3.out HS01.out.2.1
  have r0 := cell_on HBW3.out HS01.out.2.2.1
  have r1 := cell_on HBW3.out HS01.out.2.2.2.1
  have HQ2 := Lib.hid (HPJ.out w3 A2 n2 c2 Y2 HBW3.out (HY2.out.keep HB3.out) HN2.out HL2.out (fun r hr => by rw [HM2.out] at hr; exact (List.mem_filter.1 hr).1))
  go_upto_region 9 with (go_at_call 9; refine HQ2.out.mono ?_; rintro e w4 h4; obtain ⟨A4, n4, c4, Y4, x4, rfl, e4, hY4, l4, d4, a4, o4, hb⟩ := proj_out h4 HGR.out; have HY4 := Lib.hid hY4; have HN4 := Lib.hid e4; have HL4 := Lib.hid (Nat.le_trans l4 (Nat.le_of_eq HN2.out.symm)); have HD4 := Lib.hid d4; have HA4 := Lib.hid a4; have HO4 := Lib.hid o4; have HB4 := Lib.hid hb; clear e4 hY4 l4 d4 a4 o4 hb h4)
  have HBW4 := Lib.hid (bthen HBW3.out HB4.out)
  clear s0 s1 r0 r1 HQ2
  have s0 := cell_on HBW4.out HS01.out.1
  have s1 := cell_on HBW4.out HS01.out.2.1
  have r0 := cell_on HBW4.out HS01.out.2.2.1
  have r1 := cell_on HBW4.out HS01.out.2.2.2.1
  have HQ3 := Lib.hid (HPJ.out w4 C k cap Z HBW4.out (HC1.out.keep HBW4.out) HK.out (Nat.le_of_eq HK.out) (fun r hr => hr))
  go_upto_region 10 with (go_at_call 9; refine HQ3.out.mono ?_; rintro e w5 h5; obtain ⟨A5, n5, c5, Y5, x5, rfl, e5, hY5, l5, d5, a5, o5, hb⟩ := proj_out h5 HGR.out; have HY5 := Lib.hid hY5; have HN5 := Lib.hid e5; have HL5 := Lib.hid l5; have HO5 := Lib.hid o5; have HB5 := Lib.hid hb; clear e5 hY5 l5 d5 a5 o5 hb h5)
  have HBW5 := Lib.hid (bthen HBW4.out HB5.out)
  clear s0 s1 r0 r1 HQ3
  have hpo := HPO.out _ _ _ _ _ _ (by rw [HM1.out] at HO3; exact HO3.out) (by rw [HM2.out] at HO4; exact HO4.out) HO5.out
  have HEQ := Lib.hid hpo.2
  have hz0 := hpo.1
  clear hpo HPO HPJ HO3 HO4 HO5 HM1 HM2
  by_cases hx : x3 = 0 ∧ x4 = 0
  case neg =>
    have hx5 : ¬ (x5 = 0) := fun h => hx (hz0.1 h)
    have hxx : ¬ (x3 = 0) ∨ (x3 = 0 ∧ ¬ (x4 = 0)) := by omega
    clear hz0 hx HEQ
    rcases hxx with h3 | ⟨rfl, h4⟩
    all_goals
      go_wp2_with (go_at_call 8; refine (alive_any _).mono ?_; rintro e w6 ⟨rfl, hb⟩; have HB6 := Lib.hid hb; clear hb)
      go_ret
      exact ⟨by first | (have e5 := bne_iff_ne.2 hx5; have e4 := bne_iff_ne.2 h4; simp [e5, e4]; done) | (have e5 := bne_iff_ne.2 hx5; have e4 := bne_iff_ne.2 h3; simp [e5, e4]; done), bthen HB1.out (bthen HBW5.out HB6.out)⟩
  case pos =>
  obtain ⟨rfl, rfl⟩ := hx
  obtain rfl : x5 = 0 := hz0.2 ⟨rfl, rfl⟩
  have HEQ := Lib.hid (HEQ.out rfl rfl)
  clear hz0
  go_upto_region 12 with fail
  have HK3 := Lib.hid (show (0 + n3) * 64 ≤ 140737488355328 by have := HL3.out; have := HL1.out; have := HKZ.out; omega)
  have HK4 := Lib.hid (show (n3 + n4) * 64 ≤ 140737488355328 by have := HL3.out; have := HL1.out; have := HL4.out; have := HL2.out; have := HKZ.out; omega)
  have HB35 := Lib.hid (bthen HB4.out HB5.out)
  have HYY3 := Lib.hid (HY3.out.keep HB35.out)
  have HYY4 := Lib.hid (HY4.out.keep HB5.out)
  have HSZ := Lib.hid (show w5.heap.size ≤ (w5.alloc (.cells #[] 45)).heap.size by simp)
  have HY3A := Lib.hid (HYY3.out.row.keep (Nat.le_refl _) (bpush (Below.refl w5.heap.size w5) (.cells #[] 45)))
  have HGT := Lib.hid (show ∀ w7 : World, (w5.alloc (.cells #[] 45)).grownBy w7 (Value.ownBlock (.slice (some ⟨w5.heap.size, 0, none⟩) 0 0)) → Below w5.heap.size w5 w7 from fun w7 hg => (bpush (Below.refl _ _) _).trans (grown_below4 (s := 4) (own_empty (Nat.le_refl _)) hg (by simp)))
  have HRS := Lib.hid (show ∀ (A8 : Option Addr) (c8 : Nat) (w8 : World), w8.ownsRow w5.heap.size 45 4 (.slice A8 (n3 + n4) c8) (n3 + n4) (cellsR Y3 ++ cellsR Y4) → Below w5.heap.size w5 w8 → Calls Try.prog 14 #[.slice A8 (n3 + n4) c8, .slice A5 n5 c5] w8 fun e w' => e = .returned (.bool true) ∧ Below w8.heap.size w8 w' from fun A8 c8 w8 h hb => by
    rw [← cellsR_app] at h
    obtain ⟨_, A9, c9, e9, r9, q1, _, _⟩ := own_sliceR h
    cases e9
    have hc : RowsC w8 A8 (Y3 ++ Y4) := ⟨r9, fun y hy => by
      rcases List.mem_append.1 hy with hy | hy
      · exact (HYY3.out.good y hy).keep hb
      · exact (HYY4.out.good y hy).keep hb⟩
    exact refrows_any A8 A5 (n3 + n4) c8 n5 c5 ((Y3 ++ Y4).map Prod.snd) (Y5.map Prod.snd) w8 hc.rowsM (HY5.out.keep hb).rowsM (by rw [List.length_map, List.length_append, HN3.out, HN4.out]) (by rw [List.length_map, HN5.out]) (by have := HK4.out; omega) (by have := HL5.out; have := HKZ.out; omega) true (by rw [HEQ.out, List.map_append]; simp))
  clear HYY3 HY3 HY4 HB3 HB4 HB5
  go_upto_region 13 with (first
    | (at_builtin; refine wpList_append_rows rfl _ _ rfl w5.heap.size (.slice A7 n3 c7) n3 (cellsR Y3) rfl A4 n4 c4 Y4 rfl HO7.out (HYY4.out.row.keep (Nat.le_refl _) HB7.out) HN4.out HD4.out HA4.out HK4.out HB7.out.size ?_; intro v8 w8 ho8 hg8; obtain ⟨A8, c8, rfl⟩ := own_is ho8; have HO8 := Lib.hid ho8; have HB8 := Lib.hid (HB7.out.trans (grown_below4 HO7.out hg8 HB7.out.size)); clear ho8 hg8)
    | (at_builtin; refine wpList_append_rows rfl _ _ rfl w5.heap.size _ 0 [] rfl A3 n3 c3 Y3 rfl (own_empty (Nat.le_refl _)) HY3A.out HN3.out HD3.out HA3.out HK3.out HSZ.out ?_; intro v7 w7 ho7 hg7; rw [Nat.zero_add, List.nil_append] at ho7; obtain ⟨A7, c7, rfl⟩ := own_is ho7; have HO7 := Lib.hid ho7; have HB7 := Lib.hid (HGT.out _ hg7); clear ho7 hg7)
    | (go_at_call 14; refine (HRS.out _ _ _ HO8.out HB8.out).mono ?_; rintro e w9 ⟨rfl, hb9⟩; have HB9 := Lib.hid (bthen HB8.out hb9); clear hb9))
  go_wp2_with (go_at_call 8; refine (alive_any _).mono ?_; rintro e w10 ⟨rfl, hb⟩; have HB10 := Lib.hid hb; clear hb)
  go_ret
  exact ⟨rfl, bthen HB1.out (bthen HBW5.out (bthen HB9.out HB10.out))⟩
end Go.Proofs.Ytkfcpmmiimpkbaa
