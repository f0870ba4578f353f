/- How great the lists are that are read, by how many values they hold. -/
import Derived.Test.YtbccjkjibffbkaaKX
import Derived.Test.YtbccjkjibffbkaaKK
namespace Go.Proofs.Ytbccjkjibffbkaa
open Go.ChangeShapes Go.WideShapes Go.ChangeAt Go.RowKit Go.Joins Go.Shelf
set_option linter.unusedSimpArgs false
set_option linter.unusedVariables false
section
variable {H : Type}
theorem blk1 (d : DataW H) : 0 < Rows.uptoBulk d := by
  rcases d with l | _ | _ | _ | _ | _ | _ | _
  case lit => cases l <;> simp [Rows.uptoBulk]
  all_goals (simp only [Rows.uptoBulk]; omega)
theorem blkApp : ∀ l r : List (DataW H), Rows.uptoBulkAll (l ++ r) = Rows.uptoBulkAll l + Rows.uptoBulkAll r
  | [], r => by simp [Rows.uptoBulkAll]
  | x :: l, r => by rw [List.cons_append, Rows.uptoBulkAll, Rows.uptoBulkAll, blkApp l r, Nat.add_assoc]
theorem blkMem : ∀ (l : List (DataW H)) {d : DataW H}, d ∈ l → Rows.uptoBulk d ≤ Rows.uptoBulkAll l
  | x :: l, d, h => by
    rw [Rows.uptoBulkAll]
    rcases List.mem_cons.1 h with rfl | h
    · omega
    · have := blkMem l h; omega
theorem blkTimes (m : Nat) : ∀ l : List (DataW H), (∀ d ∈ l, m ≤ Rows.uptoBulk d) → l.length * m ≤ Rows.uptoBulkAll l
  | [], _ => by simp [Rows.uptoBulkAll]
  | x :: l, h => by
    rw [Rows.uptoBulkAll, List.length_cons, Nat.succ_mul]
    have h1 := h x (List.mem_cons_self ..)
    have h2 := blkTimes m l (fun d hd => h d (List.mem_cons_of_mem _ hd))
    omega
theorem blkLen (l : List (DataW H)) : l.length ≤ Rows.uptoBulkAll l := by
  have := blkTimes 1 l (fun d _ => blk1 d); omega
variable {enc : TypeId × Value → H} {w : World} {base : Nat} {spare : Nat → Bool} {held : Bool}
theorem slice_blk {t e : TypeId} (ht : Try.prog.underlying t = some (.slice e)) {A : Option Addr} {len cap fuel : Nat} {x : DataW H × List MemPlace} (h : DataW.trod enc Try.prog w base spare held fuel t [.slice A len cap] = some x) : len ≤ Rows.uptoBulk x.1 := by
  rcases DataW.trod_slice ht h with ⟨hcs, _⟩ | ⟨a, len', cap', elems, rest, n, _, hcs, hx, _, _, _, hel, _⟩
  · simp at hcs; omega
  · simp at hcs
    obtain ⟨_, rfl, _⟩ := hcs
    rw [hx]
    show _ ≤ Rows.uptoBulk (.slice (elems.map (·.1)) (rest.map (·.1)))
    have h1 := blkLen (elems.map (·.1))
    rw [List.length_map, hel] at h1
    simp only [Rows.uptoBulk]
    omega
theorem row_blk {c0 c1 c2 c3 : Value} {fuel : Nat} {x : DataW H × List MemPlace} (h : DataW.trod enc Try.prog w base spare held fuel 39 [c0, c1, c2, c3] = some x) : 5 ≤ Rows.uptoBulk x.1 ∧ (∀ D n c, c1 = .slice D n c → n ≤ Rows.uptoBulk x.1) ∧ (∀ G n c, c3 = .slice G n c → n ≤ Rows.uptoBulk x.1) := by
  have hc22 : Try.prog.cellsOf 22 = 1 := by kernel_rfl
  have hc25 : Try.prog.cellsOf 37 = 1 := by kernel_rfl
  obtain ⟨ys, n', _, hx, _, ysl, hf⟩ := DataW.trod_struct Try.underlying39 h
  have f1 : DataW.trod enc Try.prog w base spare held n' 22 ((([c0, c1, c2, c3] : List Value).drop 1).take (Try.prog.cellsOf 22)) = ys[1]? := hf 1 _ rfl
  have f3 : DataW.trod enc Try.prog w base spare held n' 37 ((([c0, c1, c2, c3] : List Value).drop 3).take (Try.prog.cellsOf 37)) = ys[3]? := hf 3 _ rfl
  rw [hc22] at f1
  rw [hc25] at f3
  have ysl' : ys.length = 4 := ysl
  have hb : Rows.uptoBulk x.1 = Rows.uptoBulkAll (ys.map (·.1)) + 1 := by rw [hx]; simp only [Rows.uptoBulk]
  have hl := blkLen (ys.map (·.1))
  rw [List.length_map, ysl'] at hl
  obtain ⟨y0, y1, y2, y3, rfl⟩ : ∃ y0 y1 y2 y3, ys = [y0, y1, y2, y3] := by
    match ys, ysl' with
    | [y0, y1, y2, y3], _ => exact ⟨y0, y1, y2, y3, rfl⟩
  have m1 := blkMem ([y0, y1, y2, y3].map (·.1)) (d := y1.1) (by simp)
  have m3 := blkMem ([y0, y1, y2, y3].map (·.1)) (d := y3.1) (by simp)
  refine ⟨by omega, ?_, ?_⟩
  · rintro D n c rfl
    have := slice_blk Try.underlying22 (x := y1) (by simpa using f1)
    omega
  · rintro D n c rfl
    have := slice_blk Try.underlying37 (x := y3) (by simpa using f3)
    omega
theorem rows_blk {L : List RZ} {A : Option Addr} {len cap fuel : Nat} {x : DataW H × List MemPlace} (h : DataW.trod enc Try.prog w base spare held fuel 28 [.slice A len cap] = some x) (hr : Row w A (cellsR L)) (hn : len = L.length) :
    L.length * 5 ≤ Rows.uptoBulk x.1 ∧ ∀ z ∈ L, z.1.n ≤ Rows.uptoBulk x.1 ∧ z.1.gn ≤ Rows.uptoBulk x.1 := by
  have hC : Try.prog.cellsOf 39 = 4 := by kernel_rfl
  rcases DataW.trod_slice Try.underlying28 h with ⟨hcs, _⟩ | ⟨a, len', cap', elems, rest, n, _, hcs, hx, _, _, _, hel, hi, _⟩
  · simp at hcs
    have hL : L = [] := List.eq_nil_of_length_eq_zero (by omega)
    subst hL
    exact ⟨by simp, fun z hz => absurd hz List.not_mem_nil⟩
  · simp at hcs
    obtain ⟨rfl, rfl, _⟩ := hcs
    rw [hC] at hi
    have hb : Rows.uptoBulkAll (elems.map (·.1)) ≤ Rows.uptoBulk x.1 := by rw [hx]; simp only [Rows.uptoBulk]; omega
    have hrow : ∀ i (h1 : i < L.length) (h2 : i < elems.length), 5 ≤ Rows.uptoBulk elems[i].1 ∧ L[i].1.n ≤ Rows.uptoBulk elems[i].1 ∧ L[i].1.gn ≤ Rows.uptoBulk elems[i].1 := fun i h1 h2 => by
      have h3 := hi i (by omega)
      rw [List.getElem?_eq_getElem h2] at h3
      obtain ⟨cs', hc, ht⟩ := Option.bind_eq_some_iff.1 h3
      obtain ⟨_, hcl, hat⟩ := World.cells?_some hc
      match cs', hcl with
      | [c0, c1, c2, c3], _ =>
        have g1 := hat 1 (by omega)
        have g3 := hat 3 (by omega)
        rw [Go.Deep.add_add] at g1 g3
        obtain ⟨b, off, e, p0, p1, p2, p3⟩ := row4 hr h1
        cases e
        have hadd : ∀ k, (⟨b, off, none⟩ : Addr).add k = ⟨b, off + k, none⟩ := by
          intro k; unfold Addr.add; split
          · rename_i h; subst h; rfl
          · rfl
        rw [hadd, ← Nat.add_assoc] at g1 g3
        have e1 : c1 = .slice L[i].1.D L[i].1.n L[i].1.c := by
          have := g1.symm.trans p1
          simpa using this
        have e3 : c3 = .slice L[i].1.G L[i].1.gn L[i].1.gc := by
          have := g3.symm.trans p3
          simpa using this
        obtain ⟨q1, q2, q3⟩ := row_blk ht
        exact ⟨q1, q2 _ _ _ e1, q3 _ _ _ e3⟩
    constructor
    · have h5 := blkTimes 5 (elems.map (·.1)) (fun d hd => by
        obtain ⟨y, hy, rfl⟩ := List.mem_map.1 hd
        obtain ⟨i, h2, rfl⟩ := List.getElem_of_mem hy
        exact (hrow i (by omega) h2).1)
      rw [List.length_map, hel] at h5
      omega
    · intro z hz
      obtain ⟨i, h1, rfl⟩ := List.getElem_of_mem hz
      have h2 : i < elems.length := by omega
      have h3 := hrow i h1 h2
      have h4 := blkMem (elems.map (·.1)) (d := elems[i].1) (List.mem_map.2 ⟨_, List.getElem_mem h2, rfl⟩)
      omega
theorem ls_blk {L : List Le} {A : Option Addr} {len cap fuel : Nat} {x : DataW H × List MemPlace} (h : DataW.trod enc Try.prog w base spare held fuel 25 [.slice A len cap] = some x) (hl : Ls0 w A L) (hn : len = L.length) :
    L.length ≤ Rows.uptoBulk x.1 ∧ (L.map Le.Z).flatten.length * 5 ≤ Rows.uptoBulk x.1 ∧ ∀ y ∈ L, ∀ z ∈ y.Z, z.2.dims.length ≤ Rows.uptoBulk x.1 ∧ z.2.aggs.length ≤ Rows.uptoBulk x.1 := by
  have hC : Try.prog.cellsOf 28 = 1 := by kernel_rfl
  have hlen := slice_blk Try.underlying25 h
  rcases DataW.trod_slice Try.underlying25 h with ⟨hcs, _⟩ | ⟨a, len', cap', elems, rest, n, _, hcs, hx, _, _, _, hel, hi, _⟩
  · simp at hcs
    have hL : L = [] := List.eq_nil_of_length_eq_zero (by omega)
    subst hL
    exact ⟨by simp, by simp, fun z hz => absurd hz List.not_mem_nil⟩
  · simp at hcs
    obtain ⟨rfl, rfl, _⟩ := hcs
    rw [hC] at hi
    have hb : Rows.uptoBulkAll (elems.map (·.1)) ≤ Rows.uptoBulk x.1 := by rw [hx]; simp only [Rows.uptoBulk]; omega
    have hrow : ∀ i (h1 : i < L.length) (h2 : i < elems.length), L[i].Z.length * 5 ≤ Rows.uptoBulk elems[i].1 ∧ ∀ z ∈ L[i].Z, z.1.n ≤ Rows.uptoBulk elems[i].1 ∧ z.1.gn ≤ Rows.uptoBulk elems[i].1 := fun i h1 h2 => by
      have h3 := hi i (by omega)
      rw [List.getElem?_eq_getElem h2] at h3
      obtain ⟨cs', hc, ht⟩ := Option.bind_eq_some_iff.1 h3
      obtain ⟨_, hcl, hat⟩ := World.cells?_some hc
      match cs', hcl with
      | [c0], _ =>
        have g0 := hat 0 (by omega)
        rw [Go.Deep.add_add] at g0
        obtain ⟨b, off, e, p0, hok⟩ := hl.at h1
        cases e
        have hadd : ∀ k, (⟨b, off, none⟩ : Addr).add k = ⟨b, off + k, none⟩ := by
          intro k; unfold Addr.add; split
          · rename_i h; subst h; rfl
          · rfl
        rw [hadd] at g0
        have e0 : c0 = .slice L[i].A L[i].n L[i].c := by
          have : some c0 = some (Value.slice L[i].A L[i].n L[i].c) := by
            rw [← p0]; simpa using g0.symm
          exact Option.some.inj this
        rw [e0] at ht
        exact rows_blk ht hok.row hok.len
    refine ⟨by omega, ?_, ?_⟩
    · have key : ∀ i, i ≤ L.length → ((L.take i).map Le.Z).flatten.length * 5 ≤ Rows.uptoBulkAll ((elems.take i).map (·.1)) := by
        intro i
        induction i with
        | zero => intro _; simp [Rows.uptoBulkAll]
        | succ i ih =>
          intro hi'
          have h1 : i < L.length := by omega
          have h2 : i < elems.length := by omega
          rw [flat_take h1, List.length_append, take_snoc elems i h2, List.map_append, blkApp]
          have h3 := ih (by omega)
          have h4 := (hrow i h1 h2).1
          have h5 : Rows.uptoBulkAll ([elems[i]].map (·.1)) = Rows.uptoBulk elems[i].1 := by simp [Rows.uptoBulkAll]
          rw [h5]; omega
      have h6 := key L.length (Nat.le_refl _)
      rw [List.take_length, List.take_of_length_le (by omega)] at h6
      omega
    · intro y hy z hz
      obtain ⟨i, h1, rfl⟩ := List.getElem_of_mem hy
      have h2 : i < elems.length := by omega
      have h3 := (hrow i h1 h2).2 z hz
      have h4 := blkMem (elems.map (·.1)) (d := elems[i].1) (List.mem_map.2 ⟨_, List.getElem_mem h2, rfl⟩)
      have hg := (hl.ok _ hy).good z hz
      have := hg.nd
      have := hg.ng
      omega
end
end Go.Proofs.Ytbccjkjibffbkaa
