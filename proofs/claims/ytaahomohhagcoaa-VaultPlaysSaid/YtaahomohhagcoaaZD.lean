/- The document's set and drop. -/
import Derived.Test.YtaahomohhagcoaaZC
namespace Go.Proofs.Ytaahomohhagcoaa
open Go.RowKit Go.Maps Go.Shelf Go.Lib
set_option linter.unusedSimpArgs false
set_option linter.unusedVariables false
theorem own_sl {w : World} {B s n : Nat} {e : TypeId} {v : Value} {xs : List Value} (h : w.ownsRow B e s v n xs) : ∃ A c, v = .slice A n c ∧ Row w A xs ∧ n ≤ c ∧ (A = none → c = 0) ∧ ∀ b o, A = some ⟨b, o, none⟩ → B ≤ b := by
  rcases h.2 with ⟨rfl, h0⟩ | ⟨g, cap, cur, rfl, hb, hc, h1, h2, h3⟩
  · have hx : xs = [] := List.length_eq_zero_iff.1 (by have := h.1; rw [h0] at this; simpa using this)
    exact ⟨none, 0, by rw [h0], .inl hx, by omega, (fun _ => rfl), fun b o e => by cases e⟩
  · refine ⟨_, cap, rfl, .inr ⟨g, 0, rfl, fun j u hu => ?_⟩, h1, (fun h => by cases h), fun b o e => by cases e; exact hb⟩
    have := h.cells (g := g) rfl j u hu
    unfold Addr.add at this
    split at this
    · rename_i hj; subst hj; simpa using this
    · simpa using this
def SetP (w : World) (a : Nat) (R : RV) (G : List FZ) (e : Ending) (w' : World) : Prop :=
  e = .returned (.tuple #[]) ∧ ∃ A n c, RRep w' a { R with A := A, n := n, c := c, F := G } ∧ Fr (fun i => i = a) w w' ∧ ∀ i o, A = some ⟨i, o, none⟩ → w.heap.size ≤ i
theorem SetP.rows {w w' : World} {a : Nat} {R : RV} {G : List FZ} {A : Option Addr} {n c : Nat} (hA : ∀ i o, A = some ⟨i, o, none⟩ → w.heap.size ≤ i) {i : Nat} (hi : RRows { R with A := A, n := n, c := c, F := G } i) : w.heap.size ≤ i ∨ ∃ f ∈ G, f.bs ≠ [] ∧ ∃ o, f.A = some ⟨i, o, none⟩ := by
  rcases hi with ⟨_, o, e⟩ | h
  · exact .inl (hA i o e)
  · exact .inr h
/-- The store that ends both. -/
theorem store_rep {w W : World} {a n c : Nat} {R : RV} {G : List FZ} {A : Option Addr} (h : RRep w a R) (hb : Below w.heap.size w W) (hrow : Row W A (cellsF G)) (hn : n = G.length) (hc : n ≤ c) (hnil : A = none → c = 0) (hA : ∀ i o, A = some ⟨i, o, none⟩ → w.heap.size ≤ i)
    (hG : ∀ f ∈ G, FileOk W f ∧ ∀ b o, f.bs ≠ [] → f.A = some ⟨b, o, none⟩ → b ≠ a) : RRep (W.setCell ⟨a, 2, none⟩ (.slice A n c)) a { R with A := A, n := n, c := c, F := G } ∧ Fr (fun i => i = a) w (W.setCell ⟨a, 2, none⟩ (.slice A n c)) := by
  have hf : Fr (fun i => i = a) W (W.setCell ⟨a, 2, none⟩ (.slice A n c)) := (Fr.refl (fun i => i = a) W).set_ (.inl (show a = a from rfl)) _
  have hbk : Blk W a 60 #[.int .i64 R.room, .int .i64 R.fuse, .slice R.A R.n R.c] := (hb.block _ h.blk.lt).trans h.blk
  have hla := h.blk.lt
  refine ⟨⟨hbk.set_ 2 _, hrow.fr' hf fun _ b o e hx => ?_, hn, hc, hnil, fun f hfm => (hG f hfm).1.fr hf fun hne b o e => (hG f hfm).2 b o hne e, fun i hi => ?_⟩, (Fr.of_below hb).trans hf⟩
  · have := hA b o e; omega
  · rcases hi with ⟨_, o, e⟩ | ⟨f, hfm, hne, o, e⟩
    · have := hA i o e; omega
    · exact (hG f hfm).2 i o hne e
theorem RRep.file_far {w : World} {a : Nat} {R : RV} (h : RRep w a R) {f : FZ} (hf : f ∈ R.F) : ∀ b o, f.bs ≠ [] → f.A = some ⟨b, o, none⟩ → b ≠ a := fun b o hne e => h.far b (.inr ⟨f, hf, hne, o, e⟩)
theorem FileOk.below {w w' : World} {f : FZ} (h : FileOk w f) (hb : Below w.heap.size w w') : FileOk w' f := h.fr (S := fun _ => False) (Fr.of_below hb) fun _ _ _ _ h => h
set_option maxRecDepth 100000 in
set_option maxHeartbeats 8000000 in
theorem rdrop_any (a u : Nat) (R : RV) (w : World) (h : RRep w a R) (hu : u < R.F.length) (hl : R.F.length ≤ 1000000) : Calls Try.prog 51 #[.pointer (some ⟨a, 0, none⟩), .int .i64 (u : Int)] w (SetP w a R (R.F.take u ++ R.F.drop (u + 1))) := by
  have HH := Lib.hid h
  have c2 := h.blk.cell 2
  simp at c2
  obtain ⟨A, hA⟩ : ∃ A, A = R.A := ⟨_, rfl⟩
  obtain ⟨n, hn⟩ : ∃ n, n = R.n := ⟨_, rfl⟩
  obtain ⟨c, hc⟩ : ∃ c, c = R.c := ⟨_, rfl⟩
  rw [← hA, ← hn, ← hc] at c2
  have HR := Lib.hid (show Row w A (cellsF R.F) by rw [hA]; exact h.row)
  have HN := Lib.hid (show n = R.F.length by rw [hn]; exact h.len)
  have hnc : n ≤ c := by rw [hn, hc]; exact h.cap
  have HNIL := Lib.hid (show A = none → c = 0 by rw [hA, hc]; exact h.nil)
  have hun : u < n := by have := HN.out; omega
  have hn2 : n ≤ 1000000 := by have := HN.out; omega
  have HU := Lib.hid hun
  have HNC := Lib.hid hnc
  have HN2 := Lib.hid hn2
  have hfr := Lib.hid (fun W => slice_front A n c u (by omega) hnc W)
  have hbk := Lib.hid (fun W => slice_back A n c (u + 1) (by omega) hnc W)
  have s1 := hfr.out
  have s2 := hbk.out
  have s2' : ∀ W, Sem.run Try.prog (Instr.slice 58 (.slice A n c) (some (.int .i64 ((u : Int) + 1))) none none) W = .ok (.slice (backA A c (u + 1)) (n - (u + 1)) (c - (u + 1))) W := fun W => by
    have := hbk.out W
    rw [show ((u + 1 : Nat) : Int) = (u : Int) + 1 by omega] at this; exact this
  have hw1 : IntKind.i64.wrap ((u : Int) + 1) = (u : Int) + 1 := IntWalk.i64_in _ (by omega)
  have ca : (w.alloc (.cells #[] 66)).cell? ⟨a, 2, none⟩ = some (.slice A n c) := cell_on (bpush (Below.refl _ _) _) c2
  have HC2 := Lib.hid c2
  have HTK := Lib.hid (show u = (R.F.take u).length by rw [List.length_take]; have := HN.out; omega)
  have HUC := Lib.hid (show u ≤ c by omega)
  have HE0 := Lib.hid (show (0 + u) * 48 ≤ 140737488355328 by omega)
  have HE1 := Lib.hid (show (u + (n - (u + 1))) * 48 ≤ 140737488355328 by omega)
  have HDK := Lib.hid (show n - (u + 1) = (R.F.drop (u + 1)).length by rw [List.length_drop]; have := HN.out; omega)
  have HDC := Lib.hid (show n - (u + 1) ≤ c - (u + 1) by omega)
  have HBN := Lib.hid (show backA A c (u + 1) = none → c - (u + 1) = 0 from backA_none HNIL.out)
  have HR1 := Lib.hid (row_front HR.out u)
  have HR2 := Lib.hid (row_backA HR.out (r := u + 1) (c := c) (by have := HN.out; omega) (by have := HN.out; omega))
  clear h hu hl hA hn hc
  go_enter Try.func51, Try.ntmps51
  go_upto_region 1 with (at_builtin; refine wpList_append_files rfl _ _ rfl w.heap.size (.slice (some ⟨w.heap.size, 0, none⟩) 0 0) 0 [] rfl A u c (R.F.take u) rfl (own_empty (Nat.le_refl _)) (HR1.out.keep (Nat.le_refl _) (bpush (Below.refl _ _) _)) HTK.out HUC.out HNIL.out HE0.out (by simp) ?_; intro v1 w1 ho1 hg1)
  rw [Nat.zero_add, List.nil_append] at ho1
  have HO1 := Lib.hid ho1
  have HB1 := Lib.hid (show Below w.heap.size w w1 from (bpush (Below.refl _ _) _).trans (grown_below4 (own_empty (t := 66) (size := 3) (Nat.le_refl w.heap.size)) hg1 (by simp)))
  clear ho1 hg1
  have c3 := cell_on HB1.out HC2.out
  clear ca c2 s1
  go_upto_region 2 with (at_builtin; refine wpList_append_files rfl _ _ rfl w.heap.size v1 u (cellsF (R.F.take u)) rfl (backA A c (u + 1)) (n - (u + 1)) (c - (u + 1)) (R.F.drop (u + 1)) rfl HO1.out (HR2.out.keep (Nat.le_refl _) HB1.out) HDK.out HDC.out HBN.out HE1.out HB1.out.size ?_; intro v2 w2 ho2 hg2)
  have HO2 := Lib.hid ho2
  have HB2 := Lib.hid (HB1.out.trans (grown_below4 HO1.out hg2 HB1.out.size))
  clear ho2 hg2
  obtain ⟨A', c', rfl, hrow, hcc, hnil, hfar⟩ := own_sl HO2.out
  have HROW := Lib.hid hrow
  have HCC := Lib.hid hcc
  have HNL := Lib.hid hnil
  have HFA := Lib.hid hfar
  clear c3 s2 s2' hrow hcc hnil hfar
  have hbk2 : Blk w2 a 60 #[.int .i64 R.room, .int .i64 R.fuse, .slice R.A R.n R.c] := (HB2.out.block _ HH.out.blk.lt).trans HH.out.blk
  have hk2 := hbk2.cell 2
  have hf2 := hbk2.frozen 2
  simp at hk2
  clear hbk2
  go_wp2_with fail
  go_end0
  obtain ⟨h1, h2⟩ := store_rep (G := R.F.take u ++ R.F.drop (u + 1)) HH.out HB2.out (by rw [cellsF_app]; exact HROW.out) (by rw [List.length_append, List.length_take, List.length_drop]; have := HN.out; have := HU.out; omega) HCC.out HNL.out (fun i o e => HFA.out i o e) (fun f hf => by
    have hm : f ∈ R.F := by
      rcases List.mem_append.1 hf with h | h
      · exact List.mem_of_mem_take h
      · exact List.mem_of_mem_drop h
    exact ⟨(HH.out.files f hm).below HB2.out, HH.out.file_far hm⟩)
  exact ⟨rfl, _, _, _, h1, h2, fun i o e => HFA.out i o e⟩
theorem cellsF_one (f : FZ) : cellsF [f] = encF f := by simp [cellsF]
set_option maxRecDepth 100000 in
set_option maxHeartbeats 8000000 in
theorem rset_any (a : Nat) (R : RV) (f : FZ) (w : World) (h : RRep w a R) (ho : oneEach R.F) (hl : R.F.length ≤ 1000) (hf : FileOk w f) (hff : ∀ b o, f.bs ≠ [] → f.A = some ⟨b, o, none⟩ → b ≠ a) :
    Calls Try.prog 50 #[.pointer (some ⟨a, 0, none⟩), .agg #[.string f.name, .slice f.A f.n f.c, .int .i64 f.safe]] w (SetP w a R (R.F.take (upto (namesF R.F) f.name) ++ f :: R.F.drop (upto (namesF R.F) f.name + if (lookF R.F f.name).isSome then 1 else 0))) := by
  obtain ⟨w1, hw1⟩ : ∃ w1, w1 = w.alloc (.cells #[.string f.name, .slice f.A f.n f.c, .int .i64 f.safe] 66) := ⟨_, rfl⟩
  have hb1 : Below w.heap.size w w1 := by rw [hw1]; exact bpush (Below.refl _ _) _
  obtain ⟨g, hg⟩ : ∃ g, g = w.heap.size := ⟨_, rfl⟩
  have HK1 := Lib.hid (show Blk w1 g 66 #[.string f.name, .slice f.A f.n f.c, .int .i64 f.safe] by rw [hw1, hg]; exact Blk.new _ _ _)
  have HH := Lib.hid h
  have HF := Lib.hid hf
  have HFF := Lib.hid hff
  have HO := Lib.hid ho
  have HFD := Lib.hid (find_any a R f.name w1 (h.below hb1) ho (by omega))
  obtain ⟨u, hu⟩ : ∃ u, u = upto (namesF R.F) f.name := ⟨_, rfl⟩
  obtain ⟨q, hq⟩ : ∃ q, q = (lookF R.F f.name).isSome := ⟨_, rfl⟩
  have hul : u ≤ R.F.length := by rw [hu]; have := upto_le (namesF R.F) f.name; unfold namesF at this ⊢; rw [List.length_map] at this; exact this
  have HQU := Lib.hid (show q = true → u < R.F.length from fun e => by
    rw [hq] at e
    obtain ⟨x, hx⟩ := Option.isSome_iff_exists.1 e
    obtain ⟨h1, _⟩ := look_at ho hx
    rw [hu]; exact h1)
  obtain ⟨A, hA⟩ : ∃ A, A = R.A := ⟨_, rfl⟩
  obtain ⟨n, hn⟩ : ∃ n, n = R.n := ⟨_, rfl⟩
  obtain ⟨c, hc⟩ : ∃ c, c = R.c := ⟨_, rfl⟩
  have HBK := Lib.hid (show Blk w a 60 #[.int .i64 R.room, .int .i64 R.fuse, .slice A n c] by rw [hA, hn, hc]; exact h.blk)
  have HR := Lib.hid (show Row w A (cellsF R.F) by rw [hA]; exact h.row)
  have HN := Lib.hid (show n = R.F.length by rw [hn]; exact h.len)
  have hnc : n ≤ c := by rw [hn, hc]; exact h.cap
  have HNIL := Lib.hid (show A = none → c = 0 by rw [hA, hc]; exact h.nil)
  have hun : u ≤ n := by have := HN.out; omega
  have hn2 : n ≤ 1000 := by have := HN.out; omega
  have HNC := Lib.hid hnc
  have HTK := Lib.hid (show u = (R.F.take u).length by rw [List.length_take]; have := HN.out; omega)
  have HUC := Lib.hid (show u ≤ c by omega)
  have HE0 := Lib.hid (show (0 + u) * 48 ≤ 140737488355328 by omega)
  have HE1 := Lib.hid (show (u + 1) * 48 ≤ 140737488355328 by omega)
  have HR1 := Lib.hid (row_front HR.out u)
  obtain ⟨r, hr⟩ : ∃ r, r = u + (if q then 1 else 0) := ⟨_, rfl⟩
  have hrn : r ≤ n := by
    rw [hr]; have := HN.out
    cases q with
    | false => simp; omega
    | true => have := HQU.out rfl; simp; omega
  have HE2 := Lib.hid (show (u + 1 + (n - r)) * 48 ≤ 140737488355328 by omega)
  have HDK := Lib.hid (show n - r = (R.F.drop r).length by rw [List.length_drop]; have := HN.out; omega)
  have HDC := Lib.hid (show n - r ≤ c - r by omega)
  have HBN := Lib.hid (show backA A c r = none → c - r = 0 from backA_none HNIL.out)
  have HR2 := Lib.hid (row_backA HR.out (r := r) (c := c) (by have := HN.out; omega) (by have := HN.out; omega))
  have s1 := fun W => slice_front A n c u hun hnc W
  have s2 := fun W => slice_back A n c r hrn hnc W
  have hwu : IntKind.i64.wrap ((u : Int) + 1) = ((u + 1 : Nat) : Int) := by rw [IntWalk.i64_in _ (by omega)]; rfl
  have HRQ := Lib.hid hr
  have HW1 := Lib.hid hw1
  have HB1 := Lib.hid hb1
  have HGG := Lib.hid hg
  have hf0 : w1.cell? ⟨g, 0, none⟩ = some (.string f.name) := by simpa using HK1.out.cell 0
  have HE := Lib.hid (show FindP w1 R.F f.name = fun e w' => e = .returned (.tuple #[.int .i64 (u : Nat), .bool q]) ∧ ∃ m, w' = w1.drewN m by unfold FindP; rw [← hu, ← hq])
  rw [HE.out] at HFD
  have HG := Lib.hid (show R.F.take (upto (namesF R.F) f.name) ++ f :: R.F.drop (upto (namesF R.F) f.name + if (lookF R.F f.name).isSome then 1 else 0) = R.F.take u ++ f :: R.F.drop r by rw [hr, ← hu, ← hq])
  rw [HG.out]
  clear h hf hff ho hl hu hq hA hn hc hr hw1 hb1 hg HE
  go_enter Try.func50, Try.ntmps50
  go_upto_region 1 with fail
  rw [← HW1.out]
  rw [← HGG.out]
  go_upto_region 2 with (go_at_call 41; refine HFD.out.mono ?_; rintro e w2 ⟨rfl, m2, hm2⟩; have HM2 := Lib.hid hm2; clear hm2)
  have hb2 : Below w1.heap.size w1 w2 := by rw [HM2.out]; exact below_drewN (Below.refl _ _) _
  have HB2 := Lib.hid (bthen HB1.out hb2)
  have HK2 := Lib.hid (show Blk w2 g 66 #[.string f.name, .slice f.A f.n f.c, .int .i64 f.safe] from (hb2.block _ HK1.out.lt).trans HK1.out)
  have ca : (w2.alloc (.cells #[] 66)).cell? ⟨a, 2, none⟩ = some (.slice A n c) := cell_on (bthen HB2.out (bpush (Below.refl _ _) _)) (by simpa using HBK.out.cell 2)
  clear hf0 hb2
  go_upto_region 3 with (at_builtin; refine wpList_append_files rfl _ _ rfl w2.heap.size (.slice (some ⟨w2.heap.size, 0, none⟩) 0 0) 0 [] rfl A u c (R.F.take u) rfl (own_empty (Nat.le_refl _)) (HR1.out.keep (Nat.le_refl _) (bthen HB2.out (bpush (Below.refl _ _) _))) HTK.out HUC.out HNIL.out HE0.out (by simp) ?_; intro v3 w3 ho3 hg3)
  rw [Nat.zero_add, List.nil_append] at ho3
  have HO3 := Lib.hid ho3
  have hb23 : Below w2.heap.size w2 w3 := (bpush (Below.refl _ _) _).trans (grown_below4 (own_empty (t := 66) (size := 3) (Nat.le_refl w2.heap.size)) hg3 (by simp))
  have HB23 := Lib.hid hb23
  have HK3 := Lib.hid (show Blk w3 g 66 #[.string f.name, .slice f.A f.n f.c, .int .i64 f.safe] from (hb23.block _ HK2.out.lt).trans HK2.out)
  have g0 : w3.cell? ⟨g, 0, none⟩ = some (.string f.name) := by simpa using HK3.out.cell 0
  have g1 : w3.cell? ⟨g, 1, none⟩ = some (.slice f.A f.n f.c) := by simpa using HK3.out.cell 1
  have g2 : w3.cell? ⟨g, 2, none⟩ = some (.int .i64 f.safe) := by simpa using HK3.out.cell 2
  obtain ⟨Av, cv, rfl, _⟩ := own_sl HO3.out
  have HSZ3 := Lib.hid (show w2.heap.size ≤ (w3.alloc (.cells (encF f).toArray 66)).heap.size by have := hb23.size; simp; omega)
  have HZR := Lib.hid (show Row (w3.alloc (.cells (encF f).toArray 66)) (some ⟨w3.heap.size, 0, none⟩) (cellsF [f]) by rw [cellsF_one]; exact Row.made rfl rfl)
  clear ho3 hg3 hb23 ca
  go_upto_region 4 with (at_builtin; refine wpList_append_files rfl _ _ rfl w2.heap.size (.slice Av u cv) u (cellsF (R.F.take u)) rfl (some ⟨w3.heap.size, 0, none⟩) 1 1 [f] rfl (HO3.out.alloc _) HZR.out rfl (Nat.le_refl _) (fun h => by cases h) HE1.out HSZ3.out ?_; intro v4 w4 ho4 hg4)
  have HO4 := Lib.hid (show w4.ownsRow w2.heap.size 66 3 v4 (u + 1) (cellsF (R.F.take u ++ [f])) by rw [cellsF_app]; exact ho4)
  have HB24 := Lib.hid (show Below w2.heap.size w2 w4 from (HB23.out.alloc HB23.out.size _).trans (grown_below4 (HO3.out.alloc _) hg4 HSZ3.out))
  clear ho4 hg4 g0 g1 g2
  obtain ⟨Au, cu, rfl, _⟩ := own_sl HO4.out
  have HB4 := Lib.hid (HB2.out.trans (HB24.out.mono HB2.out.size))
  have ca : w4.cell? ⟨a, 2, none⟩ = some (.slice A n c) := cell_on HB4.out (by simpa using HBK.out.cell 2)
  have hcut : True := trivial
  go_upto_if 26 with fail
  go_cut [4] (fun s4 wx => s4 = .int .i64 (r : Nat) ∧ wx = w4)
  case first =>
    have hr := HRQ.out
    cases q with
    | false =>
      simp at hr
      subst hr
      go_wp2_with fail
      go_meet
      case rel => exact ⟨rfl, rfl⟩
    | true =>
      simp at hr
      go_wp2_with fail
      go_meet
      case rel => exact ⟨by rw [hr]; first | rfl | exact congrArg _ hwu, rfl⟩
  case rest =>
  obtain ⟨rfl, rfl⟩ := hcut
  have HSZ4 := Lib.hid HB24.out.size
  go_upto_region 7 with (at_builtin; refine wpList_append_files rfl _ _ rfl w2.heap.size (.slice Au (u + 1) cu) (u + 1) (cellsF (R.F.take u ++ [f])) rfl (backA A c r) (n - r) (c - r) (R.F.drop r) rfl HO4.out (HR2.out.keep (Nat.le_refl _) HB4.out) HDK.out HDC.out HBN.out HE2.out HSZ4.out ?_; intro v5 w5 ho5 hg5)
  have HO5 := Lib.hid (show w5.ownsRow w2.heap.size 66 3 v5 (u + 1 + (n - r)) (cellsF (R.F.take u ++ f :: R.F.drop r)) by
    rw [show R.F.take u ++ f :: R.F.drop r = (R.F.take u ++ [f]) ++ R.F.drop r by simp, cellsF_app]; exact ho5)
  have HB5 := Lib.hid (HB4.out.trans ((grown_below4 HO4.out hg5 HSZ4.out).mono HB2.out.size))
  clear ho5 hg5 ca s1 s2
  obtain ⟨A', c', rfl, hrow, hcc, hnil, hfar⟩ := own_sl HO5.out
  have HROW := Lib.hid hrow
  have HCC := Lib.hid hcc
  have HNL := Lib.hid hnil
  have HFA := Lib.hid hfar
  clear hrow hcc hnil hfar
  have hbk2 : Blk w5 a 60 #[.int .i64 R.room, .int .i64 R.fuse, .slice A n c] := (HB5.out.block _ HBK.out.lt).trans HBK.out
  have hk2 := hbk2.cell 2
  have hf2 := hbk2.frozen 2
  simp at hk2
  clear hbk2
  go_wp2_with fail
  go_end0
  obtain ⟨h1, h2⟩ := store_rep (G := R.F.take u ++ f :: R.F.drop r) HH.out HB5.out HROW.out (by rw [List.length_append, List.length_cons, ← HTK.out, ← HDK.out]; omega) HCC.out HNL.out (fun i o e => Nat.le_trans HB2.out.size (HFA.out i o e)) (fun x hx => by
    rcases List.mem_append.1 hx with h | h
    · have hm := List.mem_of_mem_take h
      exact ⟨(HH.out.files x hm).below HB5.out, HH.out.file_far hm⟩
    · rcases List.mem_cons.1 h with rfl | h
      · exact ⟨HF.out.below HB5.out, HFF.out⟩
      · have hm := List.mem_of_mem_drop h
        exact ⟨(HH.out.files x hm).below HB5.out, HH.out.file_far hm⟩)
  exact ⟨rfl, _, _, _, h1, h2, fun i o e => Nat.le_trans HB2.out.size (HFA.out i o e)⟩
end Go.Proofs.Ytaahomohhagcoaa
