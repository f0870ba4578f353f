/- insertionSortCmpFunc on a stretch. -/
import Derived.Test.YtkfcpmmiimpkbaaSE
import Derived.Test.YtkfcpmmiimpkbaaSD
namespace Go.Proofs.Ytkfcpmmiimpkbaa
open Go.RowKit Go.Shelf
open Go.Sort hiding Below
set_option linter.unusedSimpArgs false
set_option linter.unusedVariables false
theorem get_list {α : Type} [Inhabited α] (d : Array α) (i : Nat) (h : i < d.toList.length) : d.toList[i] = d[i]! := by
  rw [getElem!_pos d i (by simpa using h)]; simp
theorem ins_lists (w0 : World) (dk : Array (GZ w0)) (P X S : List (GZ w0)) (a b : Nat) (hl : dk.toList = P ++ (X ++ S)) (hP : P.length = a) (hX : a + X.length = b) :
    ∃ M, (insertionSort (ltOf (cfG w0)) dk a b).toList = P ++ (M ++ S) ∧ SortedF (fG w0) M ∧ SameF (fG w0) X M ∧ (insertionSort (ltOf (cfG w0)) dk a b).size = dk.size := by
  have hsz : dk.size = (P ++ (X ++ S)).length := len_list hl
  have hab : a ≤ b := by omega
  have hb : b ≤ dk.size := by rw [hsz]; simp; omega
  obtain ⟨⟨h1, h2, _⟩, h3⟩ := Go.Sort.insertionSort_holds (lt := ltOf (cfG w0)) (cmpV_swo (fun z : GZ w0 => z.1.2)) dk a b hab hb
  have hf : ∀ k, (insertionSort (ltOf (cfG w0)) dk a b).toList.filter (fun x => keyV k (fG w0 x)) = dk.toList.filter (fun x => keyV k (fG w0 x)) := fun k =>
    (insOuter_filter (lt := ltOf (cfG w0)) (fun x => keyV k (fG w0 x)) (fun x y hx hy => by
      have hx' : cmpV k x.1.2 = 0 := of_decide_eq_true hx
      have hy' : cmpV k y.1.2 = 0 := of_decide_eq_true hy
      show decide (cmpV x.1.2 y.1.2 < 0) = false
      rw [← cmpV_left hx', hy']; rfl) a b (b - (a + 1)) (a + 1) dk rfl hb).1
  generalize insertionSort (ltOf (cfG w0)) dk a b = d' at h1 h2 h3 hf ⊢
  have hll : d'.toList.length = (P ++ (X ++ S)).length := by rw [← hsz, ← h1]; simp
  have e1 : d'.toList.take a = P := by
    apply List.ext_getElem
    · rw [List.length_take, hll]; simp; omega
    · intro i hi1 hi2
      rw [List.getElem_take, get_list, h2 i (.inl (by omega)), ← get_list dk i (by rw [hl]; simp; omega)]
      simp only [hl]
      rw [List.getElem_append_left hi2]
  have e2 : d'.toList.drop b = S := by
    apply List.ext_getElem
    · rw [List.length_drop, hll]; simp; omega
    · intro i hi1 hi2
      have hbi : b + i < (P ++ (X ++ S)).length := by simp; omega
      rw [List.getElem_drop, get_list, h2 (b + i) (.inr (by omega)), ← get_list dk (b + i) (by rw [hl]; exact hbi)]
      simp only [hl]
      rw [List.getElem_append_right (by omega), List.getElem_append_right (by omega)]
      congr 1; omega
  have e3 : d'.toList = P ++ ((d'.toList.drop a).take (b - a) ++ S) := by
    conv => lhs; rw [← List.take_append_drop a d'.toList, e1]
    congr 1
    conv => lhs; rw [← List.take_append_drop (b - a) (d'.toList.drop a)]
    congr 1
    rw [List.drop_drop, show a + (b - a) = b by omega, e2]
  refine ⟨(d'.toList.drop a).take (b - a), e3, ?_, fun k => ?_, h1⟩
  · rw [SortedF, List.pairwise_iff_getElem]
    intro i j hi hj hij
    rw [List.length_take, List.length_drop, hll] at hi hj
    rw [List.getElem_take, List.getElem_drop, List.getElem_take, List.getElem_drop, get_list, get_list]
    have := h3 (a + i) (a + j) (by omega) (by omega) (by omega)
    have h4 : ¬ cmpV (fG w0 d'[a + j]!) (fG w0 d'[a + i]!) < 0 := of_decide_eq_false this
    exact cmpV_flip h4
  · have := hf k
    rw [e3, hl, List.filter_append, List.filter_append, List.filter_append, List.filter_append] at this
    exact List.append_cancel_right (List.append_cancel_left this)
set_option maxRecDepth 1000000 in
set_option maxHeartbeats 8000000 in
theorem ins_any (w0 w W : World) (blk off cap n a b : Nat) (az bz : Int) (d0 : Array (GZ w0)) (R : RowK (encG w0) 4 w blk off d0) (hbw : Below w0.heap.size w0 w) (hb0 : w0.heap.size ≤ blk) (hs0 : d0.size = n) (hn : n ≤ 1000000) (P X S : List (GZ w0)) (hW : SwSt 4 w0 w blk off (P ++ (X ++ S)) W)
    (hL : (P ++ (X ++ S)).length = n) (hP : P.length = a) (hX : a + X.length = b) (haz : az = a) (hbz : bz = b) :
    Calls Try.prog 78 #[.slice (some ⟨blk, off, none⟩) n cap, .int .i64 az, .int .i64 bz, .func (.func 50) #[] #[]] W fun e W' => e = .returned (.tuple #[]) ∧ ∃ M, SwSt 4 w0 w blk off (P ++ (M ++ S)) W' ∧ SortedF (fG w0) M ∧ SameF (fG w0) X M := by
  subst haz hbz
  obtain ⟨dk, hdl, hsw⟩ := hW
  have hds : dk.size = n := by rw [len_list hdl, hL]
  have hbW : Below w0.heap.size w0 W := by
    obtain ⟨q, os, rfl⟩ := hsw
    exact hbw.trans ((sw_below (encG w0) 4 w blk off q dk os R.hblk).mono hb0)
  have hbl := hsw.lt R.hblk
  have hH := hsw.holds R.hblk R.hH (by rw [hds, hs0])
  have hi := AnyQ.insertionSortCmpFunc insLays 4 (fun w => Try.isAgg45 w) (fun w => Try.sizeOf45 w) (encG w0) (encG_len w0) (encG_one w0) (cfG w0) 50 #[] blk off cap a b dk W (enters_of Try.func50 (by kernel_rfl) rfl) (cmp_lays w0 W blk off dk.size hbW hb0 hbl) hH hbl (by omega) (by rw [hds, ← hL]; simp; omega) (by omega)
  rw [hds] at hi
  refine hi.mono ?_
  rintro e W' ⟨rfl, q, os, rfl⟩
  obtain ⟨M, m1, m2, m3, m4⟩ := ins_lists w0 dk P X S a b hdl hP hX
  exact ⟨rfl, M, ⟨_, m1, hsw.on R.hblk q _ os m4⟩, m2, m3⟩
end Go.Proofs.Ytkfcpmmiimpkbaa
