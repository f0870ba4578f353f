/- SortFunc (67) of rows by Compare; SortedFunc (39) of a map's values. -/
import Derived.Test.YtmmeekmiildliaaGreatDoorIC
import Derived.Test.YtmmeekmiildliaaGreatDoorIS
import Derived.Test.YtmmeekmiildliaaGreatDoorRI
import Derived.Test.YtmmeekmiildliaaGreatDoorSA
import Derived.Shelf.SlSortCmp.NoneTotal
namespace Go.Proofs.YtmmeekmiildliaaGreatDoor
open Go.RowKit Go.Sort Go.Shelf
set_option linter.unusedSimpArgs false
set_option linter.unusedVariables false
theorem pdq_rows (w0 w : World) (B blk n cap : Nat) (Z : List RZ) (h : Below w0.heap.size w0 w) (hb : w0.heap.size ≤ blk) (hg : ∀ z ∈ Z, Good w0 z) (hn : n = Z.length) (h19 : n ≤ 1000000)
    (ho : w.ownsRow B 59 4 (.slice (some ⟨blk, 0, none⟩) n cap) n (cellsR Z)) :
    Calls Tryz.prog 67 #[.slice (some ⟨blk, 0, none⟩) n cap, .func (.func 41) #[] #[]] w fun e w' => e = .returned (.tuple #[]) ∧ ∃ Z' : List RZ, Z'.Perm Z ∧ (Z'.map Prod.snd).Pairwise (fun a b => cmpV a b ≤ 0) ∧ (∀ z ∈ Z', Good w0 z) ∧ Z'.length = n ∧ Row w' (some ⟨blk, 0, none⟩) (cellsR Z') ∧ Below blk w w' := by
  obtain ⟨l, hl⟩ := exists_gz w0 Z hg
  obtain ⟨d, hd⟩ : ∃ d : Array (GZ w0), d = l.toArray := ⟨_, rfl⟩
  have hdl : d.toList = l := by rw [hd]
  have hds : d.size = n := by rw [hd, hn, ← hl]; simp
  have ho2 : w.ownsRow B 59 4 (.slice (some ⟨blk, 0, none⟩) n cap) n (cellsR (d.toList.map Subtype.val)) := by rw [hdl, hl]; exact ho
  obtain ⟨hH, hblk⟩ := holds_rows w0 w B blk n cap d hds.symm ho2
  have hc := AnyQ.slices_SortFunc Tryz.laysSort 4 (fun w => Tryz.isAgg59 w) (fun w => Tryz.sizeOf59 w) (encG w0) (encG_len w0) (encG_one w0) (cfG w0) (cmpV_swo (fun z : GZ w0 => z.1.2)) 41 #[] blk 0 cap d w (enters_of Tryz.func41 (by kernel_rfl) rfl) (cmp_lays w0 w blk 0 d.size h hb hblk) hH hblk (by omega)
  rw [hds] at hc
  refine Calls.mono hc ?_
  rintro e w' ⟨rfl, d', m, os, ⟨hp1, hp2, hp3⟩, hs, rfl⟩
  have e1 : d'.toList.Perm d.toList := by
    have q1 : (d'.extract 0 n) = d' := by rw [← hds, ← hp1]; simp
    have q2 : (d.extract 0 n) = d := by rw [← hds]; simp
    rw [q1, q2] at hp3; exact hp3
  refine ⟨rfl, d'.toList.map Subtype.val, ?_, ?_, ?_, ?_, ?_, sw_below _ _ _ _ _ _ _ _ hblk⟩
  · have := e1.map Subtype.val
    rw [hdl, hl] at this; exact this
  · rw [List.map_map, List.pairwise_iff_getElem]
    intro i j hi hj hij
    have hj' : j < d'.size := by simpa using hj
    have hi' : i < d'.size := by omega
    have hh := hs i j (Nat.zero_le _) hij (by rw [← hds, ← hp1]; exact hj')
    rw [getElem!_pos d' i hi', getElem!_pos d' j hj'] at hh
    simp only [List.getElem_map, Array.getElem_toList, Function.comp]
    have h2 : ¬ cmpV d'[j].1.2 d'[i].1.2 < 0 := of_decide_eq_false hh
    exact cmpV_flip h2
  · intro z hz
    obtain ⟨y, _, rfl⟩ := List.mem_map.1 hz
    exact y.2
  · rw [List.length_map, Array.length_toList, hp1, hds]
  · exact row_holds w0 _ blk _ (holdsK_sortWorldK_c (encG w0) 4 w blk 0 d _ _ _ hH hblk hp1)
def SfPost (w : World) (Z : List RZ) (e : Ending) (w' : World) : Prop := ∃ A n c Z', e = .returned (.slice A n c) ∧ Z'.Perm Z ∧ (Z'.map Prod.snd).Pairwise (fun a b => cmpV a b ≤ 0) ∧ n = Z'.length ∧ RowsC w' A Z' ∧ Below w.heap.size w w'
set_option maxRecDepth 100000 in
set_option maxHeartbeats 4000000 in
theorem sortedf_any (Bm b nn : Nat) (D0 : DataW Value) (Z : List RZ) (w : World) (hD : MapIs D0 Z) (hl : Z.length ≤ 1000000) (hm : w.cell? ⟨Bm, 0, none⟩ = some (.map (some b))) (hown : w.ownsMap Tryz.prog 9 RM b nn D0) (hg : ∀ z ∈ Z, Good w z) :
    Calls Tryz.prog 39 #[.func (.func 68) #[] #[.pointer (some ⟨Bm, 0, none⟩)], .func (.func 41) #[] #[]] w (SfPost w Z) := by
  have HC := Lib.hid (collect_any Bm b nn D0 Z w hD hl hm hown)
  have HG := Lib.hid hg
  have HL := Lib.hid hl
  clear hD hl hm hown hg
  go_enter Tryz.func39, Tryz.ntmps39
  go_wp2_with (first
    | (go_at_call 66
       refine HC.out.mono ?_
       rintro e w2 ⟨v, Y, rfl, h1, h2, h3⟩
       have HP := Lib.hid h1
       have HO := Lib.hid h2
       have HB := Lib.hid h3
       clear h1 h2 h3)
    | fail)
  have hyl : Y.length ≤ 1000000 := by rw [HP.out.length_eq]; exact HL.out
  have HGY := Lib.hid (fun z (hz : z ∈ Y) => HG.out z (HP.out.mem_iff.1 hz))
  rcases HO.out.2 with ⟨rfl, h0⟩ | ⟨g, cap, cur, rfl, hbg, _⟩
  · have hy : Y = [] := List.eq_nil_of_length_eq_zero h0
    have HN := Lib.hid (fun W => AnyF.slices_SortFunc_none Tryz.laysSort none 0 (.func (.func 41) #[] #[]) W)
    go_wp2_with (first
      | (go_at_call 67; refine Calls.mono (HN.out _) ?_; rintro e w3 ⟨rfl, rfl⟩)
      | fail)
    go_ret
    exact ⟨_, _, _, [], rfl, by have := HP.out; rw [hy] at this; exact this, List.Pairwise.nil, rfl, ⟨.inl rfl, fun z hz => absurd hz List.not_mem_nil⟩, HB.out⟩
  · have HS := Lib.hid (pdq_rows w w2 w.heap.size g Y.length cap Y HB.out hbg HGY.out rfl hyl HO.out)
    go_wp2_with (first
      | (go_at_call 67; refine HS.out.mono ?_; rintro e w3 ⟨rfl, Z', p1, p2, p3, p4, p5, p6⟩
         have H1 := Lib.hid (p1.trans HP.out)
         have H2 := Lib.hid p2
         have H4 := Lib.hid p4.symm
         have H5 := Lib.hid p5
         have H6 := Lib.hid (HB.out.trans (p6.mono hbg))
         have H3 := Lib.hid p3
         clear p1 p2 p3 p4 p5 p6)
      | fail)
    go_ret
    exact ⟨_, _, _, Z', rfl, H1.out, H2.out, H4.out, ⟨H5.out, fun z hz => (H3.out z hz).keep H6.out⟩, H6.out⟩
end Go.Proofs.YtmmeekmiildliaaGreatDoor
