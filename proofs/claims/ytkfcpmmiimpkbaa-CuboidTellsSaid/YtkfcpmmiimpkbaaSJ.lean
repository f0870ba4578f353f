/- SortStableFunc of rows, as many as there are. -/
import Derived.Test.YtkfcpmmiimpkbaaSI
namespace Go.Proofs.Ytkfcpmmiimpkbaa
open Go.RowKit Go.Shelf
open Go.Sort hiding Below
set_option linter.unusedSimpArgs false
set_option linter.unusedVariables false
theorem sort_call (w : World) (A : Option Addr) (n cap : Nat) (Q : World → Prop) (h : Calls Try.prog 65 #[.slice A n cap, .int .i64 n, .func (.func 50) #[] #[]] w fun e w' => e = .returned (.tuple #[]) ∧ Q w') :
    Calls Try.prog 49 #[.slice A n cap, .func (.func 50) #[] #[]] w fun e w' => e = .returned (.tuple #[]) ∧ Q w' := by
  have HI := Lib.hid h
  clear h
  go_enter Try.func49, Try.ntmps49
  go_wp2_with fail
  go_at_call 65
  refine HI.out.mono ?_
  clear HI
  rintro e w' ⟨rfl, hq⟩
  have HQ := Lib.hid hq
  clear hq
  go_wp2_with fail
  go_end0
  exact ⟨rfl, HQ.out⟩
theorem sorts_of {w0 : World} {K L : List (GZ w0)} (h1 : SortedF (fG w0) L) (h2 : SameF (fG w0) K L) : SortsTo (K.map fun z => z.1.2) (L.map fun z => z.1.2) := by
  constructor
  · rw [List.pairwise_map]; exact h1
  · intro k
    rw [List.filter_map, List.filter_map]
    congr 1
    exact h2 k
theorem sort_all (w0 w : World) (B blk n cap : Nat) (Z : List RZ) (h : Below w0.heap.size w0 w) (hb : w0.heap.size ≤ blk) (hg : ∀ z ∈ Z, Good w0 z) (hn : n = Z.length) (h19 : n ≤ 1000000)
    (ho : w.ownsRow B 45 4 (.slice (some ⟨blk, 0, none⟩) n cap) n (cellsR Z)) :
    Calls Try.prog 49 #[.slice (some ⟨blk, 0, none⟩) n cap, .func (.func 50) #[] #[]] w fun e w' => e = .returned (.tuple #[]) ∧ ∃ Z' : List RZ, SortsTo (Z.map Prod.snd) (Z'.map Prod.snd) ∧ (∀ z ∈ Z', Good w0 z) ∧ Z'.length = n ∧ Row w' (some ⟨blk, 0, none⟩) (cellsR Z') ∧ Below blk w w' := by
  obtain ⟨l, hl⟩ := exists_gz w0 Z hg
  obtain ⟨d, hd⟩ : ∃ d : Array (GZ w0), d = l.toArray := ⟨_, rfl⟩
  have hdl : d.toList = l := by rw [hd]
  have hds : d.size = n := by rw [hd, hn, ← hl]; simp
  have ho2 : w.ownsRow B 45 4 (.slice (some ⟨blk, 0, none⟩) n cap) n (cellsR (d.toList.map Subtype.val)) := by rw [hdl, hl]; exact ho
  obtain ⟨hH, hblk⟩ := holds_rows w0 w B blk n cap d hds.symm ho2
  have R : RowK (encG w0) 4 w blk 0 d := ⟨encG_len w0, encG_one w0, hH, hblk⟩
  refine sort_call w _ n cap _ ((stable_any w0 w blk 0 cap n d R h hb hds h19).mono ?_)
  rintro e w' ⟨rfl, L', ⟨dk, hdk, q, os, rfl⟩, h2, h3⟩
  refine ⟨rfl, L'.map Subtype.val, ?_, ?_, ?_, ?_, sw_below _ _ _ _ _ _ _ _ hblk⟩
  · have := sorts_of h2 h3
    have e1 : d.toList.map (fun z : GZ w0 => z.1.2) = Z.map Prod.snd := by rw [hdl, ← hl, List.map_map]; rfl
    rw [e1] at this
    rw [List.map_map]
    exact this
  · intro z hz
    obtain ⟨y, _, rfl⟩ := List.mem_map.1 hz
    exact y.2
  · rw [List.length_map, ← h3.length]; simp [hds]
  · rw [← hdk]
    exact row_holds w0 _ blk dk (holdsK_sortWorldK_c (encG w0) 4 w blk 0 d _ _ _ hH hblk (by rw [len_list hdk, ← h3.length]; simp))
end Go.Proofs.Ytkfcpmmiimpkbaa
