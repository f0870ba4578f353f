/- Its own. -/
import Derived.Test.YtaahomohhagcoaaR
import Derived.Test.YtaahomohhagcoaaU
import Derived.Test.YtaahomohhagcoaaT
import Derived.StillTailTactics
namespace Go.Proofs.Ytaahomohhagcoaa
open Go.RowKit Go.Maps Go.Shelf Go.Lib
set_option linter.unusedSimpArgs false
set_option linter.unusedVariables false
theorem ArgB.lift {w : World} {B B' : Nat} {A : Option Addr} {n c : Nat} {bs : List Int} (h : ArgB w B A n c bs) (hB : B ≤ B') : ArgB w B' A n c bs :=
  ⟨h.row, h.len, h.cap, h.nil, h.byt, h.big, fun hne b o e => Nat.lt_of_lt_of_le (h.low hne b o e) hB⟩
theorem OkAct.lift {w : World} {B B' : Nat} {x : Act5} (h : OkAct w B x) (hB : B ≤ B') : OkAct w B' x := ⟨h.lo, h.hi, h.a, h.z, h.arg.lift hB⟩
theorem norm_usedZ' (V : VZ) : usedF (normZ V).F = usedF V.F := norm_used V.F
/-- What the files have, as texts. -/
def textsF (F : List FZ) : List ByteArray := F.map fun f => strOfNums f.bs
def BytesAt (W : World) (b n : Nat) : Prop := ∃ cs, Blk W b 5 cs ∧ ∀ m, m < n → ∃ z, cs[m]? = some (.int .u8 z)
theorem BytesAt.set_ {W : World} {b n m : Nat} {z : Int} (h : BytesAt W b n) : BytesAt (W.setCell ⟨b, m, none⟩ (.int .u8 z)) b n := by
  obtain ⟨cs, h1, h2⟩ := h
  refine ⟨_, h1.set_ m _, fun i hi => ?_⟩
  obtain ⟨y, hy⟩ := h2 i hi
  by_cases e : m = i
  · subst e
    exact ⟨z, by rw [Array.getElem?_setIfInBounds]; have := (Array.getElem?_eq_some_iff.1 hy).1; simp [this]⟩
  · exact ⟨y, by rw [Array.getElem?_setIfInBounds, if_neg e]; exact hy⟩
theorem own_bytes {W : World} {base n k : Nat} {D : Option Addr} {bs : List Int} (h : W.ownsRow base 5 1 (.slice D n k) n (u8s bs)) : ∃ db, base ≤ db ∧ ∀ hb : base ≤ W.heap.size, (0 < n → D = some ⟨db, 0, none⟩ ∧ BytesAt W db n ∧ db < W.heap.size) := by
  have hl := h.1
  rw [u8s_len] at hl
  rcases h.2 with ⟨e, h0⟩ | ⟨g, cap, cur, e, hb, hc, h1, h2, h3, h4⟩
  · exact ⟨base, Nat.le_refl _, fun _ h => by omega⟩
  · refine ⟨g, hb, fun _ hn => ?_⟩
    cases e
    refine ⟨rfl, ⟨cur, hc, fun m hm => ?_⟩, (Array.getElem?_eq_some_iff.1 hc).1⟩
    have hm2 : m < bs.length := by omega
    have hr := World.ownsRow.cells h (g := g) rfl m (.int .u8 bs[m]) (by unfold u8s; rw [List.getElem?_map, List.getElem?_eq_getElem hm2]; rfl)
    have hcell : W.cell? ⟨g, m, none⟩ = some (.int .u8 bs[m]) := by
      unfold Addr.add at hr
      split at hr
      · rename_i h0; subst h0; exact hr
      · simpa using hr
    have hb2 : Blk W g 5 cur := hc
    rw [hb2.cell m] at hcell
    exact ⟨_, hcell⟩
theorem own_fr {w w' : World} {B : Nat} {e : TypeId} {s n : Nat} {v : Value} {xs : List Value} {S : Nat → Prop} (h : w.ownsRow B e s v n xs) (hf : Fr S w w') (hs : ∀ b, v.ownBlock = some b → ¬ S b) : w'.ownsRow B e s v n xs := by
  obtain ⟨h1, h2⟩ := h
  refine ⟨h1, ?_⟩
  rcases h2 with h2 | ⟨g, cap, cur, e1, e2, e3, r⟩
  · exact .inl h2
  · refine .inr ⟨g, cap, cur, e1, e2, ?_, r⟩
    have hlt : g < w.heap.size := (Array.getElem?_eq_some_iff.1 e3).1
    exact (hf.block g hlt (hs g (by rw [e1]; rfl))).trans e3
set_option maxRecDepth 100000 in
set_option maxHeartbeats 16000000 in
theorem copy_walk (A : Option Addr) (n c : Nat) (L : List Act5) (x : Act5) (w : World) (hA : Row w A (cellsA L)) (hg : ∀ y ∈ L, OkAct w w.heap.size y) (hx : OkAct w w.heap.size x) (hn : n = L.length) (hn2 : n ≤ 9223372036854775807) (hnc : n ≤ c) :
    Calls Try.prog 8 #[.slice A n c, x.val] w fun e w' => e = .returned (.bool true) ∧ Below w.heap.size w w' := by
  obtain ⟨w0, hw0⟩ : ∃ w0, w0 = w.alloc (.cells #[.int .i64 x.kind, .int .i64 x.n, .string x.a, .string x.z, .slice x.A x.nb x.cb] 33) := ⟨_, rfl⟩
  have hb0 : Below w.heap.size w w0 := by rw [hw0]; exact bpush (Below.refl _ _) _
  obtain ⟨g, hgg⟩ : ∃ g, g = w.heap.size := ⟨_, rfl⟩
  have HK0 := Lib.hid (show Blk w0 g 33 #[.int .i64 x.kind, .int .i64 x.n, .string x.a, .string x.z, .slice x.A x.nb x.cb] by rw [hw0, hgg]; exact Blk.new _ _ _)
  have HA := Lib.hid (hA.keep (Nat.le_refl _) hb0)
  have HG := Lib.hid (fun y hy => ((hg y hy).keep hb0).lift hb0.size)
  have HX := Lib.hid ((hx.keep hb0).lift hb0.size)
  have HN := Lib.hid hn
  have HB0 := Lib.hid hb0
  have HW0 := Lib.hid hw0
  have HGG := Lib.hid hgg
  have HGB := Lib.hid (show g < w0.heap.size by rw [hgg, hw0]; simp)
  show Calls Try.prog 8 #[.slice A n c, .agg #[.int .i64 x.kind, .int .i64 x.n, .string x.a, .string x.z, .slice x.A x.nb x.cb]] w _
  clear hA hg hx hn hb0 hw0 hgg
  go_enter Try.func8, Try.ntmps8
  go_upto_region 1 with fail
  rw [← HW0.out, ← HGG.out]
  go_wp2_with (go_at_call 9; refine (newG_any 5000 w0 (by omega)).mono ?_; rintro e w1 ⟨mb, a, rfl, hv, hb⟩; have HV1 := Lib.hid hv; have HB1 := Lib.hid hb; clear hv hb)
  go_loopw [7] (fun i wr => ∃ (k : Nat) (V : VZ), k ≤ n ∧ k ≤ 80 ∧ i = .int .i64 k ∧ Hid (VRep wr w0.heap.size a V) ∧ Hid (Below w0.heap.size w0 wr)) (fun i _ => 80 - (intOf i).toNat)
  case atStart => exact ⟨0, newZ 5000 mb, by omega, by omega, rfl, HV1, HB1⟩
  case round =>
    clear HV1 HB1
    obtain ⟨k, V, hk, hk8, rfl, HV, HB⟩ := hrel
    obtain ⟨b, hb⟩ : ∃ b, b = decide (k < n ∧ k < 80) := ⟨_, rfl⟩
    have Hb := Lib.hid hb
    clear hb
    go_upto_region 5 with fail
    go_cut [39] (fun sl wx => sl = .bool b ∧ wx = wr)
    case first =>
      have e := Hb.out
      by_cases h1 : k < n
      · have h1z : (k : Int) < (n : Int) := by omega
        by_cases h2 : k < 80
        · have h2z : (k : Int) < 80 := by omega
          rw [decide_eq_true (And.intro h1 h2)] at e
          clear h1 h2
          go_wp2_with fail
          go_meet
          case rel => exact ⟨by rw [e], rfl⟩
        · have h2z : ¬ (k : Int) < 80 := by omega
          rw [decide_eq_false (fun h => h2 h.2)] at e
          clear h1 h2
          go_wp2_with fail
          go_meet
          case rel => exact ⟨by rw [e], rfl⟩
      · have h1z : ¬ (k : Int) < (n : Int) := by omega
        rw [decide_eq_false (fun h => h1 h.1)] at e
        clear h1
        go_wp2_with fail
        go_meet
        case rel => exact ⟨by rw [e], rfl⟩
    case rest =>
    obtain ⟨rfl, rfl⟩ := hcut
    cases b with
    | true =>
      have hkk : k < n ∧ k < 80 := of_decide_eq_true Hb.out.symm
      have hkz : k < L.length := by have := HN.out; omega
      obtain ⟨sb, off, rfl, c0, c1, c2, c3, c4⟩ := act_cells (HA.out.keep (Nat.le_refl _) HB.out) hkz
      obtain ⟨y, hy⟩ : ∃ y, y = L[k] := ⟨_, rfl⟩
      rw [← hy] at c0 c1 c2 c3 c4
      have HY := Lib.hid (show OkAct w0 w0.heap.size y from HG.out y (by rw [hy]; exact List.getElem_mem _))
      have hk0 : (0 : Int) ≤ (k : Int) := by omega
      have hk1 : (k : Int) < (n : Int) := by omega
      obtain ⟨qf, hqf⟩ : ∃ qf, qf = (decide (y.a.size ≤ 200) && decide (y.z.size ≤ 200) && decide (y.nb ≤ 200)) := ⟨_, rfl⟩
      have HQF := Lib.hid hqf
      clear hy hqf Hb
      have HCP := Lib.hid (fun W (hb : Below wc.heap.size wc W) => (show W.cell? ⟨sb, off + k * 5, none⟩ = some (.int .i64 y.kind) ∧ W.cell? ⟨sb, off + k * 5 + 1, none⟩ = some (.int .i64 y.n) ∧ W.cell? ⟨sb, off + k * 5 + 2, none⟩ = some (.string y.a) ∧ W.cell? ⟨sb, off + k * 5 + 3, none⟩ = some (.string y.z) ∧ W.cell? ⟨sb, off + k * 5 + 4, none⟩ = some (.slice y.A y.nb y.cb) from ⟨cell_on hb c0, cell_on hb c1, cell_on hb c2, cell_on hb c3, cell_on hb c4⟩))
      go_upto_region 8 with (go_at_call 12; refine (fits_any y.kind y.n y.a y.z y.A y.nb y.cb qf wc HQF.out).mono ?_; rintro e w5 ⟨rfl, hb⟩; have HB5 := Lib.hid hb; clear hb)
      clear c0 c1 c2 c3 c4
      obtain ⟨c0, c1, c2, c3, c4⟩ := HCP.out _ HB5.out
      have HBW5 := Lib.hid (HB.out.trans (HB5.out.mono HB.out.size))
      have HV5 := Lib.hid (HV.out.below HB5.out)
      cases qf with
      | false =>
        go_wp2_with fail
        go_roundw
        case rel => exact ⟨k + 1, V, by omega, by omega, by go_num, HV5, HBW5⟩
        case measure => simp [intOf]; omega
      | true =>
      by_cases hk4 : 4 < y.kind
      · go_wp2_with fail
        go_roundw
        case rel => exact ⟨k + 1, V, by omega, by omega, by go_num, HV5, HBW5⟩
        case measure => simp [intOf]; omega
      have hk4' : ¬ (4 < y.kind) := hk4
      have HDO := Lib.hid (do_any w0.heap.size a V y w5 HV5.out (HY.out.keep HBW5.out) HBW5.out.size)
      go_wp2_with (go_at_call 13; refine HDO.out.mono ?_; rintro e w7 ⟨V7, rfl, hn7, hl7⟩; have HBW7 := Lib.hid (HBW5.out.trans (ActP.below HV5.out hl7 HBW5.out.size)); have HV7 := Lib.hid hl7.rep; clear hn7 hl7)
      go_roundw
      case rel => exact ⟨k + 1, V7, by omega, by omega, by go_num, HV7, HBW7⟩
      case measure => simp [intOf]; omega
    | false =>
    clear hk hk8 Hb HA HG HN hn2 hnc
    have HLI := Lib.hid (list_any w0.heap.size a V _ HV.out)
    obtain ⟨fr, hfr⟩ : ∃ fr : Int, fr = (V.room : Int) - (usedF V.F : Int) := ⟨_, rfl⟩
    have HFR := Lib.hid hfr
    clear hfr
    go_upto_region 11 with (go_at_call 27; refine HLI.out.mono ?_; rintro e w2 ⟨D, kk, rfl, ho, hb⟩; have HO2 := Lib.hid ho; have HB2 := Lib.hid hb; clear ho hb)
    obtain ⟨nl, hnl⟩ : ∃ nl, nl = V.F.length := ⟨_, rfl⟩
    rw [← hnl] at HO2 ⊢
    have HNL := Lib.hid hnl
    have hnl200 : nl ≤ 200 := by rw [hnl]; exact HV.out.len
    have HV2 := Lib.hid (HV.out.below HB2.out)
    have HBW2 := Lib.hid (HB.out.trans (HB2.out.mono HB.out.size))
    have HROW2 := Lib.hid (show Row w2 D (texts (namesF V.F)) from by
      obtain ⟨A', c', e, hrow, _⟩ := own_slice HO2.out
      cases e; exact hrow)
    have HNK := Lib.hid (show nl ≤ kk from by
      obtain ⟨A', c', e, _, h, _⟩ := own_slice HO2.out
      cases e; exact h)
    clear hnl HO2 HLI
    go_upto_region 12 with (go_at_call 29; refine (free_norm HV2.out rfl (x := fr) (by rw [HFR.out, ← norm_usedZ' V]; rfl)).mono ?_; rintro e w3 ⟨rfl, hb⟩; have HB3 := Lib.hid hb; clear hb)
    have HV3 := Lib.hid (HV2.out.below HB3.out)
    have HBW3 := Lib.hid (HBW2.out.trans (HB3.out.mono HBW2.out.size))
    have HROW3 := Lib.hid (HROW2.out.keep (Nat.le_refl _) HB3.out)
    obtain ⟨i0, hi0, hz0, hz1, hz2⟩ := info_parts info9
    obtain ⟨tx, htx⟩ : ∃ tx, tx = textsF V.F := ⟨_, rfl⟩
    have HTX := Lib.hid htx
    clear htx HROW2 HV2 HB2 HB3 HV HB HBW2
    go_wp2_with fail
    go_loopw [11, 12] (fun v11 v12 wr => ∃ (j : Nat) (A' : Option Addr) (c' : Nat), j ≤ nl ∧ v12 = .int .i64 j ∧ v11 = .slice A' j c' ∧ Hid (wr.ownsRow w3.heap.size 9 1 (.slice A' j c') j (texts (tx.take j))) ∧ Hid (Below w3.heap.size w3 wr)) (fun _ i _ => nl - (intOf i).toNat)
    case atStart => exact ⟨0, none, 0, by omega, rfl, rfl, Lib.hid (World.ownsRow_nil _ _ _ _), Lib.hid (Below.refl _ _)⟩
    case round =>
      obtain ⟨j, A', c', hj, rfl, rfl, HOW, HB4⟩ := hrel
      have HV4 := Lib.hid (HV3.out.below HB4.out)
      have HROW4 := Lib.hid (HROW3.out.keep (Nat.le_refl _) HB4.out)
      have hnk := HNK.out
      by_cases hjn : j < nl
      · have hjl : j < V.F.length := by have := HNL.out; omega
        obtain ⟨db, dof, rfl, d0⟩ := text_cell HROW4.out (show j < (namesF V.F).length by unfold namesF; rw [List.length_map]; exact hjl)
        obtain ⟨f, hf⟩ : ∃ f, f = V.F[j] := ⟨_, rfl⟩
        have hfm : f ∈ V.F := by rw [hf]; exact List.getElem_mem _
        have hfn : (namesF V.F)[j]'(by unfold namesF; rw [List.length_map]; exact hjl) = f.name := by rw [hf]; simp [namesF]
        rw [hfn] at d0
        have hlk : lkF V.F f.name = f := by unfold lkF; rw [look_some HV4.out.core.one hfm]; rfl
        have htk : tx.take (j + 1) = tx.take j ++ [strOfNums f.bs] := by
          rw [HTX.out, take_snoc _ _ (by unfold textsF; rw [List.length_map]; exact hjl), hf]; simp [textsF]
        have HTK := Lib.hid htk
        have HRD := Lib.hid (read_any w0.heap.size a V f.name _ HV4.out (by have := HV4.out.name f hfm; omega))
        have HLK := Lib.hid hlk
        have hj0 : (0 : Int) ≤ (j : Int) := by omega
        have hj1 : (j : Int) < (nl : Int) := by omega
        clear hf hfm hfn hlk htk
        go_upto_region 17 with (go_at_call 20; refine HRD.out.mono ?_; rintro e w10 hq; obtain ⟨D2, n2, k2, rfl, ho2, hn2', hn3, hb10⟩ := hq; rw [HLK.out] at hn2' ho2; have HN2 := Lib.hid hn2'; have HO2 := Lib.hid ho2; have HB10 := Lib.hid hb10; have HN3 := Lib.hid hn3; clear ho2 hn2' hn3 hb10)
        have hconv : Sem.run Try.prog (convert 31 9 (.slice D2 n2 k2)) w10 = .ok (.string (strOfNums f.bs)) w10 := by
          obtain ⟨A9, c9, e, hrow, _⟩ := own_slice HO2.out
          cases e
          exact conv_bs hrow HN2.out
        have HOW10 := Lib.hid (own_below HOW.out HB10.out)
        have HSZ := Lib.hid (show w3.heap.size ≤ wr.heap.size ∧ wr.heap.size ≤ w10.heap.size from ⟨HB4.out.size, HB10.out.size⟩)
        have hj16 : (j + 1) * 16 ≤ 140737488355328 := by omega
        have hjm : j + 1 ≤ maxLen := by unfold maxLen; omega
        clear d0
        go_upto_region 18 with (at_builtin; refine wpList_append_own_at _ rfl _ _ 49 rfl w3.heap.size 9 i0 (.string ⟨#[]⟩) 1 16 Try.underlying49 hi0 hz0 hz1 hz2 rfl (by decide) (.slice A' j c') j (texts (tx.take j)) rfl (HOW10.out.alloc _) ⟨w10.heap.size, 0, none⟩ 1 1 [.string (strOfNums f.bs)] rfl rfl (Row.made rfl rfl).at' (by intro u hu; simp at hu; subst hu; rfl) hjm hj16 (by have := HSZ.out; simp; omega) ?_; intro v3 w12 ho3 hg3 _ hd3; obtain ⟨A3, c3, rfl⟩ := own_is ho3; have HO3 := Lib.hid ho3; have HG3 := Lib.hid hg3; have HD3 := Lib.hid hd3; clear ho3 hg3 hd3)
        have hg2 : w10.grownBy w12 (Value.slice A' j c').ownBlock := ⟨HG3.out.os, HG3.out.tape, HG3.out.output, by have := HG3.out.size; simp at this; omega, fun i hi hne => (HG3.out.block i (by simp; omega) hne).trans (Below.heap_alloc _ _ _ hi)⟩
        have hlt := HOW.out.lt
        have HO12 := Lib.hid (show w12.ownsRow wr.heap.size 5 1 (.slice D2 n2 k2) n2 (u8s f.bs) from HO2.out.kept hg2 (by
          by_cases e : (Value.slice D2 n2 k2).ownBlock = none
          · exact .inl e
          · refine .inr fun h => ?_
            obtain ⟨b, hb⟩ := Option.ne_none_iff_exists'.1 e
            have h1 := (HO2.out.lt b hb).1
            have h2 := (hlt b (by rw [← h]; exact hb)).2
            omega))
        have HB12 := Lib.hid (show Below w3.heap.size w3 w12 from (HB4.out.trans (HB10.out.mono HB4.out.size)).grown hg2 (by have := HSZ.out; omega) (fun k hk => (hlt k hk).1))
        obtain ⟨pb, hpb, hbt⟩ := own_bytes HO12.out
        have hsz12 := hg2.size
        have HBT := Lib.hid (hbt (by have := HSZ.out; omega))
        have HPB := Lib.hid (show wr.heap.size ≤ pb from hpb)
        have HOW12 := Lib.hid (show w12.ownsRow w3.heap.size 9 1 (.slice A3 (j + 1) c3) (j + 1) (texts (tx.take (j + 1))) from by
          have h := HO3.out
          rw [show texts (tx.take j) ++ [Value.string (strOfNums f.bs)] = texts (tx.take (j + 1)) by rw [HTK.out]; simp [texts]] at h
          exact h)
        have HNB := Lib.hid (show 0 < n2 → ∀ b, (Value.slice A3 (j + 1) c3).ownBlock = some b → b ≠ pb from fun h0 b hb e => by
          subst e
          have h1 := (HBT.out h0).2.2
          have h2 := (HBT.out h0).2.1
          obtain ⟨cs, hk, _⟩ := h2
          rcases HOW12.out.2 with ⟨e1, _⟩ | ⟨g2, cap, cur, e1, _, e3, _⟩
          · rw [e1] at hb; cases hb
          · rw [e1] at hb
            obtain rfl : g2 = b := by simpa [Value.ownBlock] using hb
            unfold Blk at hk
            rw [e3] at hk; cases hk)
        clear hg2 hlt hpb hbt hsz12 hconv HO3 HD3 HG3 HOW10 HO2
        go_wp2_with fail
        go_loopw [15] (fun v15 wq => ∃ m : Nat, m ≤ n2 ∧ v15 = .int .i64 m ∧ Hid (0 < n2 → BytesAt wq pb n2) ∧ Hid (Fr (fun i => 0 < n2 ∧ i = pb) w12 wq)) (fun i _ => n2 - (intOf i).toNat)
        case atStart => exact ⟨0, by omega, rfl, Lib.hid (fun h => (HBT.out h).2.1), Lib.hid (Fr.refl _ _)⟩
        case round =>
          obtain ⟨m, hm, rfl, HBQ, HFQ⟩ := hrel
          have hn3 := HN3.out
          by_cases hmn : m < n2
          · have h0 : 0 < n2 := by omega
            obtain ⟨rfl, _, _⟩ := HBT.out h0
            obtain ⟨cs, hbk, hcs⟩ := HBQ.out h0
            obtain ⟨z, hz⟩ := hcs m hmn
            have q0 := hbk.cell m
            have q1 := hbk.frozen m
            rw [hz] at q0
            have hm0 : (0 : Int) ≤ (m : Int) := by omega
            have hm1 : (m : Int) < (n2 : Int) := by omega
            have HH0 := Lib.hid h0
            have hnk2 : n2 ≤ k2 := by
              obtain ⟨A9, c9, e, _, h, _⟩ := own_slice HO12.out
              cases e; exact h
            clear hbk hcs hz h0
            go_wp2_with fail
            go_roundw
            case rel => exact ⟨m + 1, by omega, by go_num, Lib.hid (fun h => (HBQ.out h).set_), Lib.hid (HFQ.out.set_ (.inl ⟨HH0.out, rfl⟩) _)⟩
            case measure => simp [intOf]; omega
          · have hmx : ¬ ((m : Int) < (n2 : Int)) := by omega
            go_wp2_with fail
            go_roundw
            case rel => exact ⟨j + 1, A3, c3, by omega, by go_num, rfl, Lib.hid (own_fr HOW12.out HFQ.out (fun b hb h => HNB.out h.1 b hb h.2)), Lib.hid (((Fr.of_below (S := fun i => 0 < n2 ∧ i = pb) (HB12.out.mono (Nat.le_refl _))).trans HFQ.out).below (Nat.le_refl _) (fun i hi => by have := HPB.out; have := HSZ.out; omega))⟩
            case measure => simp [intOf]; omega
      · obtain rfl : j = nl := by omega
        obtain ⟨wo, rfl⟩ : ∃ wo : World, wo = wr := ⟨_, rfl⟩
        have hjx : ¬ ((j : Int) < (j : Int)) := by omega
        have htj : tx.take j = tx := List.take_of_length_le (by rw [HTX.out, HNL.out]; unfold textsF; rw [List.length_map]; exact Nat.le_refl _)
        rw [htj] at HOW
        have HWAS := Lib.hid (show Row wo A' (texts tx) from by
          obtain ⟨A9, c9, e, hrow, _⟩ := own_slice HOW.out
          cases e; exact hrow)
        have HWC := Lib.hid (show j ≤ c' from by
          obtain ⟨A9, c9, e, _, h, _⟩ := own_slice HOW.out
          cases e; exact h)
        have HBW4 := Lib.hid (HBW3.out.trans (HB4.out.mono HBW3.out.size))
        have HKW := Lib.hid (fun W (hb : Below wo.heap.size wo W) => (show W.cell? ⟨g, 0, none⟩ = some (.int .i64 x.kind) ∧ W.cell? ⟨g, 1, none⟩ = some (.int .i64 x.n) ∧ W.cell? ⟨g, 2, none⟩ = some (.string x.a) ∧ W.cell? ⟨g, 3, none⟩ = some (.string x.z) ∧ W.cell? ⟨g, 4, none⟩ = some (.slice x.A x.nb x.cb) from by
          have h2 := HBW4.out.trans (hb.mono HBW4.out.size)
          have h : Blk W g 33 #[.int .i64 x.kind, .int .i64 x.n, .string x.a, .string x.z, .slice x.A x.nb x.cb] := (h2.block _ HGB.out).trans HK0.out
          exact ⟨by simpa using h.cell 0, by simpa using h.cell 1, by simpa using h.cell 2, by simpa using h.cell 3, by simpa using h.cell 4⟩))
        clear htj HOW HROW3 HB4 HV3
        have HCY := Lib.hid (copy_any w0.heap.size a V wo HV4.out)
        go_upto_region 23 with (go_at_call 17; refine HCY.out.mono ?_; rintro e w20 ⟨ac, Vc, rfl, _, hvc, hb⟩; have HVC := Lib.hid hvc; have HB20 := Lib.hid hb; clear hvc hb)
        have HVd0 := Lib.hid (HV4.out.below HB20.out)
        have HCR := Lib.hid (crash_any w0.heap.size a V x.n w20 HVd0.out HX.out.lo HX.out.hi)
        obtain ⟨b0, b1, b2, b3, b4⟩ := HKW.out _ HB20.out
        go_upto_region 24 with (go_at_call 15; refine HCR.out.mono ?_; rintro e w21 ⟨ad, Vd, rfl, _, hvd, hb⟩; have HVD := Lib.hid hvd; have HB21 := Lib.hid hb; clear hvd hb)
        have HBR21 := Lib.hid (bthen HB20.out HB21.out)
        clear b0 b1 b2 b3 b4
        obtain ⟨b0, b1, b2, b3, b4⟩ := HKW.out _ HBR21.out
        obtain ⟨qf, hqf⟩ : ∃ qf, qf = (decide (x.a.size ≤ 200) && decide (x.z.size ≤ 200) && decide (x.nb ≤ 200)) := ⟨_, rfl⟩
        have HQF := Lib.hid hqf
        clear hqf
        go_upto_region 25 with (go_at_call 12; refine (fits_any x.kind x.n x.a x.z x.A x.nb x.cb qf w21 HQF.out).mono ?_; rintro e w22 ⟨rfl, hb⟩; have HB22 := Lib.hid hb; clear hb)
        have HBR22 := Lib.hid (bthen HBR21.out HB22.out)
        clear b0 b1 b2 b3 b4
        obtain ⟨b0, b1, b2, b3, b4⟩ := HKW.out _ HBR22.out
        have HVC22 := Lib.hid (HVC.out.below (bthen HB21.out HB22.out))
        have HVD22 := Lib.hid (HVD.out.below HB22.out)
        go_upto_if 114 with fail
        go_cut [] (fun wx => ∃ V', Hid (VRep wx wo.heap.size ac V') ∧ Hid (Below wo.heap.size wo wx))
        case first =>
          cases qf with
          | false =>
            go_wp2_with fail
            go_meet
            case rel => exact ⟨Vc, HVC22, HBR22⟩
          | true =>
          have HOC := Lib.hid (do_any wo.heap.size ac Vc x w22 HVC22.out ((HX.out.keep (HBW4.out.trans (HBR22.out.mono HBW4.out.size))).lift HBW4.out.size) HBR22.out.size)
          have HAP := Lib.hid (show ∀ i, Foot ad Vd i → ¬ Foot ac Vc i from fun i h1 h2 => by
            have a1 := (HVD.out.foot_lt h1).2
            have a2 := (HVC.out.foot_lt h2).1
            omega)
          have HDL := Lib.hid (show ∀ i, Foot ad Vd i → i < w22.heap.size from fun i h1 => (HVD22.out.foot_lt h1).1)
          go_upto_region 29 with (go_at_call 13; refine HOC.out.mono ?_; rintro e w23 ⟨V5, rfl, _, hl5⟩; have HL5 := Lib.hid hl5; clear hl5)
          have HVD23 := Lib.hid (HVD22.out.fr HL5.out.fr HAP.out)
          have HBR23 := Lib.hid (HBR22.out.trans (ActP.below HVC22.out HL5.out HBR22.out.size))
          clear b0 b1 b2 b3 b4
          obtain ⟨b0, b1, b2, b3, b4⟩ := HKW.out _ HBR23.out
          have HOD := Lib.hid (do_any w20.heap.size ad Vd x w23 HVD23.out ((HX.out.keep (HBW4.out.trans (HBR23.out.mono HBW4.out.size))).lift (Nat.le_trans HBW4.out.size HB20.out.size)) (by have h1 := HB21.out.size; have h2 := HB22.out.size; have h3 := HL5.out.fr.size; omega))
          go_wp2_with (go_at_call 13; refine HOD.out.mono ?_; rintro e w24 ⟨V6, rfl, _, hl6⟩; have HL6 := Lib.hid hl6; clear hl6)
          go_meet
          case rel =>
            refine ⟨V5, Lib.hid (HL5.out.rep.fr HL6.out.fr fun i h1 h2 => ?_), Lib.hid (HBR23.out.trans ((ActP.below HVD23.out HL6.out (by have h1 := HB21.out.size; have h2 := HB22.out.size; have h3 := HL5.out.fr.size; omega)).mono HB20.out.size))⟩
            rcases HL5.out.foot i h1 with h | h
            · exact HAP.out i h2 h
            · have := HDL.out i h2; omega
        case rest =>
        obtain ⟨V5, HVC5, HBR5⟩ := hcut
        clear HVC22 HVD22 HBR22 HBR21 HCY HCR HVC HVD HB20 HB21 HB22 HQF HVd0 b0 b1 b2 b3 b4
        have hc := const_app HVC5.out ⟨#[110, 101, 119]⟩ [120] (1, 2) (by decide) (by decide) (by unfold bytes; decide)
        have HCA := Lib.hid (show Calls Try.prog 22 #[.pointer (some ⟨ac, 0, none⟩), .string ⟨#[110, 101, 119]⟩, .slice (some ⟨wc.heap.size, 0, none⟩) 1 1] (wc.alloc (.cells #[.int .u8 120] 5 (1, 2))) (ActP wc wo.heap.size ac V5 (appendS (normZ V5) ⟨#[110, 101, 119]⟩ [120])) from hc)
        clear hc
        have hcc := @run_convert_bytes_const Try.prog
        go_upto_region 31 with (go_at_call 22; refine HCA.out.mono ?_; rintro e w26 ⟨V7, rfl, _, hl7⟩; have HBR26 := Lib.hid (HBR5.out.trans (ActP.below HVC5.out hl7 HBR5.out.size)); clear hl7)
        clear hcc HCA HVC5 HBR5
        go_wp2_with fail
        go_loopw [19] (fun v19 wq => ∃ m : Nat, m ≤ j ∧ v19 = .int .i64 m ∧ Hid (Below wo.heap.size wo wq)) (fun i _ => j - (intOf i).toNat)
        case atStart => exact ⟨0, by omega, rfl, HBR26⟩
        case round =>
          obtain ⟨m, hm, rfl, HBQ⟩ := hrel
          have HVQ := Lib.hid (HV4.out.below HBQ.out)
          have HROWQ := Lib.hid (HROW4.out.keep (Nat.le_refl _) HBQ.out)
          have HWASQ := Lib.hid (HWAS.out.keep (Nat.le_refl _) HBQ.out)
          by_cases hmj : m < j
          · have hml : m < V.F.length := by have := HNL.out; omega
            obtain ⟨nb, nof, rfl, d0⟩ := text_cell HROWQ.out (show m < (namesF V.F).length by unfold namesF; rw [List.length_map]; exact hml)
            have hmt : m < tx.length := by rw [HTX.out]; unfold textsF; rw [List.length_map]; exact hml
            obtain ⟨wb, wof, rfl, e0⟩ := text_cell HWASQ.out hmt
            obtain ⟨f, hf⟩ : ∃ f, f = V.F[m] := ⟨_, rfl⟩
            have hfm : f ∈ V.F := by rw [hf]; exact List.getElem_mem _
            have hfn : (namesF V.F)[m]'(by unfold namesF; rw [List.length_map]; exact hml) = f.name := by rw [hf]; simp [namesF]
            have hft : tx[m] = strOfNums f.bs := by simp only [HTX.out, textsF, List.getElem_map, hf]
            rw [hfn] at d0
            rw [hft] at e0
            have hlk : lkF V.F f.name = f := by unfold lkF; rw [look_some HVQ.out.core.one hfm]; rfl
            have HRD := Lib.hid (read_any w0.heap.size a V f.name _ HVQ.out (by have := HVQ.out.name f hfm; omega))
            have HLK := Lib.hid hlk
            obtain ⟨qs, hqs⟩ : ∃ qs, qs = strOfNums f.bs := ⟨_, rfl⟩
            rw [← hqs] at e0
            have HQS := Lib.hid hqs
            have HE0 := Lib.hid e0
            have hm0 : (0 : Int) ≤ (m : Int) := by omega
            have hm1 : (m : Int) < (j : Int) := by omega
            have hwc := HWC.out
            clear hf hfm hfn hft hlk hqs hmt e0
            go_upto_region 35 with (go_at_call 20; refine HRD.out.mono ?_; rintro e w30 hq; obtain ⟨D2, n2, k2, rfl, ho2, hn2', hn3, hb10⟩ := hq; rw [HLK.out] at hn2' ho2; have HN2 := Lib.hid hn2'; have HO2 := Lib.hid ho2; have HB30 := Lib.hid hb10; clear ho2 hn2' hn3 hb10)
            have hcv : ∀ z, Sem.run Try.prog (convert 31 9 (.slice D2 n2 k2)) (w30.drewN z) = .ok (.string qs) (w30.drewN z) := fun z => by
              obtain ⟨A9, c9, e, hrow, _⟩ := own_slice HO2.out
              cases e
              rw [HQS.out]; exact conv_bs (row_dr hrow z) HN2.out
            have e1 : w30.cell? ⟨wb, wof + m, none⟩ = some (.string qs) := cell_on HB30.out HE0.out
            have HBQ2 := Lib.hid (fun z => below_drewN (bthen HBQ.out HB30.out) z)
            clear d0
            go_quiet (fail)
            go_wp2_with fail
            go_roundw
            case rel => exact ⟨m + 1, by omega, by go_num, Lib.hid (HBQ2.out _)⟩
            case measure => simp [intOf]; omega
          · obtain rfl : m = j := by omega
            have hmx : ¬ ((m : Int) < (m : Int)) := by omega
            have hlist : ∀ W, Below wo.heap.size wo W → VRep W w0.heap.size a V := fun W hb => HV4.out.below hb
            have HLS := Lib.hid hlist
            have HNLm := Lib.hid (show V.F.length = m from HNL.out.symm)
            clear hlist
            go_wp2_with (first
              | (go_at_call 11; refine (alive_any _).mono ?_; rintro e w31 ⟨rfl, hb⟩; have HB31 := Lib.hid (bthen HBQ.out hb); clear hb)
              | (go_at_call 29; refine (free_norm (HLS.out _ HB31.out) rfl (x := fr) (by rw [HFR.out, ← norm_usedZ' V]; rfl)).mono ?_; rintro e w32 ⟨rfl, hb⟩; have HB32 := Lib.hid (bthen HB31.out hb); clear hb)
              | (go_at_call 27; refine (list_any w0.heap.size a V w32 (HLS.out _ HB32.out)).mono ?_; rintro e w33 ⟨D9, k9, rfl, ho, hb⟩; have HB33 := Lib.hid (bthen HB32.out hb); have HR33 := Lib.hid (show Row w33 D9 (texts (namesF V.F)) from (by obtain ⟨A9, c9, e, hrow, _⟩ := own_slice ho; cases e; exact hrow)); clear ho hb)
              | (go_at_call 28; refine (texts_any D9 _ V.F.length k9 m kk (namesF V.F) (namesF V.F) w33 HR33.out (HROW4.out.keep (Nat.le_refl _) HB33.out) (by unfold namesF; rw [List.length_map]) (by rw [← HNLm.out]; unfold namesF; rw [List.length_map]) (by rw [HNLm.out]; omega) (by omega) true ⟨fun _ => rfl, fun _ => rfl⟩).mono ?_; rintro e w34 ⟨rfl, hb⟩; have HB34 := Lib.hid (bthen HB33.out hb); clear hb))
            go_ret
            exact ⟨rfl, HB0.out.trans ((HBW4.out.trans (HB34.out.mono HBW4.out.size)).mono HB0.out.size)⟩
end Go.Proofs.Ytaahomohhagcoaa
