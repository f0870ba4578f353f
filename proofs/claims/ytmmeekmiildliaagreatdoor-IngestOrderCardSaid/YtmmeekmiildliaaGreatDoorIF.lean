/- An index of rows: its mathematics; what it is in memory. -/
import Derived.Test.YtmmeekmiildliaaGreatDoorIC
import Derived.Test.YtmmeekmiildliaaGreatDoorSF
import Derived.Test.YtmmeekmiildliaaGreatDoorNB
namespace Go.Proofs.YtmmeekmiildliaaGreatDoor
open Go.RowKit Go.Maps
set_option linter.unusedSimpArgs false
set_option linter.unusedVariables false
theorem strict_one {V : List RV} (h : Strict V) (k : RV) : V.filter (keyV k) = [] ∨ ∃ a, V.filter (keyV k) = [a] := by
  rcases hf : V.filter (keyV k) with _ | ⟨a, _ | ⟨b, R⟩⟩
  · exact .inl rfl
  · exact .inr ⟨a, rfl⟩
  · exfalso
    have hp := List.Pairwise.filter (keyV k) h
    rw [hf] at hp
    have h1 := (List.pairwise_cons.1 hp).1 b List.mem_cons_self
    have ha : a ∈ V.filter (keyV k) := by rw [hf]; exact List.mem_cons_self
    have hb : b ∈ V.filter (keyV k) := by rw [hf]; exact List.mem_cons_of_mem _ List.mem_cons_self
    have h2 : cmpV k a = 0 := by simpa [keyV] using (List.mem_filter.1 ha).2
    have h3 : cmpV k b = 0 := by simpa [keyV] using (List.mem_filter.1 hb).2
    have h4 := cmpV_left h2 b
    omega
theorem FoldOf.self {V : List RV} (h : Strict V) : FoldOf V V := by
  refine ⟨h, fun k => ?_, fun k => ?_⟩
  · rcases strict_one h k with e | ⟨a, e⟩ <;> rw [e] <;> rfl
  · rcases strict_one h k with e | ⟨a, e⟩ <;> rw [e] <;> rfl
theorem perm_one {a : RV} {L : List RV} (h : L.Perm [a]) : L = [a] := List.perm_singleton.1 h
theorem sorted_perm {L V : List RV} (hs : L.Pairwise fun a b => cmpV a b ≤ 0) (hp : L.Perm V) (hV : Strict V) : L = V := by
  refine sorted_one L V hs hV.sorted fun k => ?_
  have hf := hp.filter (keyV k)
  rcases strict_one hV k with e | ⟨a, e⟩
  · rw [e] at hf ⊢; exact hf.eq_nil
  · rw [e] at hf ⊢; exact perm_one hf
/-- A list of rows in some order. -/
structure IxV (V : List RV) (Z : List RZ) : Prop where
  perm : (Z.map Prod.snd).Perm V
  strict : Strict V
theorem IxV.nil : IxV [] [] := ⟨List.Perm.nil, List.Pairwise.nil⟩
theorem IxV.mem {V : List RV} {Z : List RZ} (h : IxV V Z) {z : RZ} (hz : z ∈ Z) : z.2 ∈ V := h.perm.mem_iff.1 (List.mem_map_of_mem hz)
theorem insK_strict {q : Nat} {V : List RV} {x : RV} (h : Strict V) (hO : ∀ a ∈ V, OkR q a) (hx : OkR q x) (h0 : (insK V x).2 = 0) : Strict (insK V x).1 ∧ ∀ a ∈ (insK V x).1, OkR q a := by
  rcases insK_step (FoldOf.self h) hO hO hx with ⟨_, h1, h2⟩ | ⟨h1, _⟩
  · exact ⟨h1.strict, h2⟩
  · rw [h0] at h1; exact absurd h1 (by decide)
theorem IxV.new {q : Nat} {V : List RV} {Z : List RZ} {z : RZ} (h : IxV V Z) (hO : ∀ a ∈ V, OkR q a) (hx : OkR q z.2) (hz : ∀ y ∈ Z, cmpV y.2 z.2 ≠ 0) : (insK V z.2).2 = 0 ∧ IxV (insK V z.2).1 (Z ++ [z]) := by
  have hV : ∀ a ∈ V, cmpV a z.2 ≠ 0 := fun a ha => by
    obtain ⟨y, hy, rfl⟩ := List.mem_map.1 (h.perm.mem_iff.2 ha)
    exact hz y hy
  have hsplit : V.takeWhile (below z.2) ++ V.dropWhile (below z.2) = V := List.takeWhile_append_dropWhile
  have hp : (insK V z.2).2 = 0 ∧ (insK V z.2).1.Perm (V ++ [z.2]) := by
    unfold insK
    rcases hD : V.dropWhile (below z.2) with _ | ⟨r, R⟩
    · simp only
      rw [hD, List.append_nil] at hsplit
      rw [hsplit]; exact ⟨trivial, List.Perm.refl _⟩
    · have hr : r ∈ V := by rw [← hsplit, hD]; simp
      simp only
      rw [if_neg (hV r hr)]
      refine ⟨rfl, ?_⟩
      have e : V ++ [z.2] = V.takeWhile (below z.2) ++ ((r :: R) ++ [z.2]) := by rw [← List.append_assoc, ← hD, hsplit]
      rw [e]
      exact List.Perm.append_left _ (List.perm_append_singleton z.2 (r :: R)).symm
  refine ⟨hp.1, ?_, (insK_strict h.strict hO hx hp.1).1⟩
  rw [List.map_append, List.map_singleton]
  exact (h.perm.append_right _).trans hp.2.symm
theorem IxV.old {q : Nat} {V : List RV} {A B : List RZ} {y : RZ} {x : RV} (h : IxV V (A ++ y :: B)) (hO : ∀ a ∈ V, OkR q a) (hx : OkR q x) (hk : cmpV y.2 x = 0) :
    ((joinR y.2 x).2 ≠ 0 → insK V x = ([], (joinR y.2 x).2)) ∧ ((joinR y.2 x).2 = 0 → (insK V x).2 = 0 ∧ ∀ z : RZ, z.2 = (joinR y.2 x).1 → IxV (insK V x).1 (A ++ z :: B)) := by
  have hsplit : V.takeWhile (below x) ++ V.dropWhile (below x) = V := List.takeWhile_append_dropWhile
  have hT : ∀ a ∈ V.takeWhile (below x), cmpV a x < 0 := fun a ha => by simpa [below] using takeWhile_all _ _ a ha
  have hy : y.2 ∈ V := h.mem (by simp)
  have hst := h.strict
  unfold Strict at hst
  obtain ⟨r, R, hD⟩ : ∃ r R, V.dropWhile (below x) = r :: R := by
    rcases hD : V.dropWhile (below x) with _ | ⟨r, R⟩
    · rw [hD, List.append_nil] at hsplit
      rw [← hsplit] at hy
      have := hT _ hy; omega
    · exact ⟨r, R, rfl⟩
  rw [← hsplit, hD, List.pairwise_append] at hst
  obtain ⟨_, s2, s3⟩ := hst
  have hr : ¬ cmpV r x < 0 := by have := dropWhile_head _ _ hD; simpa [below] using this
  have e : y.2 = r := by
    rw [← hsplit, hD] at hy
    rcases List.mem_append.1 hy with h1 | h1
    · have := hT _ h1; omega
    · rcases List.mem_cons.1 h1 with h2 | h2
      · exact h2
      · have := (List.pairwise_cons.1 s2).1 _ h2
        rw [cmpV_right hk] at this; omega
  have hi : insK V x = if (joinR y.2 x).2 = 0 then (V.takeWhile (below x) ++ (joinR y.2 x).1 :: R, 0) else ([], (joinR y.2 x).2) := by
    unfold insK
    rw [hD]
    simp only
    rw [← e, if_pos hk]
  refine ⟨fun h0 => by rw [hi, if_neg h0], fun h0 => ?_⟩
  have h1 : insK V x = (V.takeWhile (below x) ++ (joinR y.2 x).1 :: R, 0) := by rw [hi, if_pos h0]
  have h2 : (insK V x).2 = 0 := by rw [h1]
  refine ⟨h2, fun z hz => ⟨?_, (insK_strict h.strict hO hx h2).1⟩⟩
  rw [h1]
  have hp := h.perm
  rw [← hsplit, hD, ← e, List.map_append, List.map_cons] at hp
  have hp2 : (A.map Prod.snd ++ B.map Prod.snd).Perm (V.takeWhile (below x) ++ R) := ((List.perm_middle.symm.trans hp).trans List.perm_middle).cons_inv
  rw [List.map_append, List.map_cons, hz]
  exact (List.perm_middle.trans (hp2.cons _)).trans List.perm_middle.symm
/-- But for two blocks, and new ones, nothing has turned. -/
structure Kx (bx mb : Nat) (w w' : World) : Prop where
  os : w'.os = w.os
  tape : w'.tape = w.tape
  output : w'.output = w.output
  size : w.heap.size ≤ w'.heap.size
  block : ∀ i, i < w.heap.size → i ≠ bx → i ≠ mb → w'.heap[i]? = w.heap[i]?
theorem Kx.of {bx mb : Nat} {w w' : World} (h : Below w.heap.size w w') : Kx bx mb w w' := ⟨h.os, h.tape, h.output, h.size, fun i hi _ _ => h.block i hi⟩
theorem Kx.trans {bx mb : Nat} {a b c : World} (h : Kx bx mb a b) (g : Kx bx mb b c) : Kx bx mb a c :=
  ⟨g.os.trans h.os, g.tape.trans h.tape, g.output.trans h.output, Nat.le_trans h.size g.size, fun i hi h1 h2 => (g.block i (Nat.lt_of_lt_of_le hi h.size) h1 h2).trans (h.block i hi h1 h2)⟩
theorem Kx.map {bx mb : Nat} {w w' : World} (h : w.grownBy w' (some mb)) : Kx bx mb w w' := ⟨h.os, h.tape, h.output, h.size, fun i hi _ h2 => h.block i hi (fun e => h2 (Option.some.inj e))⟩
theorem Kx.cell {bx mb : Nat} {w : World} {o : Nat} {u : Value} : Kx bx mb w (w.setCell ⟨bx, o, none⟩ u) := ⟨rfl, rfl, rfl, by simp [World.setCell], fun i _ h1 _ => Below.heap_setCell _ _ _ i h1⟩
theorem Kx.below {bx mb B : Nat} {w w' : World} (h : Kx bx mb w w') (h1 : B ≤ bx) (h2 : B ≤ mb) (hB : B ≤ w.heap.size) : Below B w w' := ⟨h.os, h.tape, h.output, h.size, fun i hi => h.block i (by omega) (by omega) (by omega)⟩
theorem Kx.own {bx mb C : Nat} {w w' : World} (h : Kx bx mb w w') {e : TypeId} {size : Nat} {v : Value} {n : Nat} {xs : List Value} (ho : w.ownsRow C e size v n xs) (h1 : v.ownBlock ≠ some bx) (h2 : v.ownBlock ≠ some mb) : w'.ownsRow C e size v n xs := by
  rcases ho.2 with ⟨rfl, h0⟩ | ⟨g, cap, cur, rfl, hg, hb, h3⟩
  · exact ⟨ho.1, .inl ⟨rfl, h0⟩⟩
  · refine ⟨ho.1, .inr ⟨g, cap, cur, rfl, hg, (h.block g (lt_of_heap hb) (fun e => h1 (by rw [e]; rfl)) (fun e => h2 (by rw [e]; rfl))).trans hb, h3⟩⟩
theorem own_not_map {W : World} {B size k j : Nat} {e : TypeId} {v : Value} {xs : List Value} (h : W.ownsRow B e size v k xs) {es : Array MapEntry} {cl : Nat} (ho : W.heap[j]? = some (.map es cl)) : v.ownBlock ≠ some j := own_not_walk h ho rfl
/-- A row as an index keeps it. -/
structure OkX (d q : Nat) (a : RV) : Prop where
  d : OkD d a
  r : OkR q a
/-- An index in memory: its block, its map's block, its granularity, schema, rows, and how many events. -/
structure Ix (w : World) (B bx mb : Nat) (g : Int) (L M : List ByteArray) (V : List RV) (nn : Nat) : Prop where
  sch : rightP L M
  gran : okGran g
  blk : ∃ A n c E m d, Blk w bx 73 #[.slice A n c, .slice E m d, .int .i64 g, .map (some mb), .int .i64 (nn : Int)] ∧ w.ownsRow B 9 1 (.slice A n c) n (texts L) ∧ w.ownsRow B 9 1 (.slice E m d) m (texts M)
  rows : ∃ D Z, w.ownsMap Tryz.prog 9 RM mb nn D ∧ MapIs D Z ∧ IxV V Z ∧ ∀ z ∈ Z, Owned B w z
  ok : ∀ a ∈ V, OkX L.length M.length a
  lx : B ≤ bx
  lm : B ≤ mb
theorem Ix.map {w : World} {B bx mb nn : Nat} {g : Int} {L M : List ByteArray} {V : List RV} (h : Ix w B bx mb g L M V nn) : ∃ es cl, w.heap[mb]? = some (.map es cl) := by
  obtain ⟨D, Z, ⟨es, cl, hb, _⟩, _⟩ := h.rows
  exact ⟨es, cl, hb⟩
theorem Ix.lts {w : World} {B bx mb nn : Nat} {g : Int} {L M : List ByteArray} {V : List RV} (h : Ix w B bx mb g L M V nn) : bx < w.heap.size ∧ mb < w.heap.size := by
  obtain ⟨es, cl, hb⟩ := h.map
  obtain ⟨A, n, c, E, m, d, h1, _⟩ := h.blk
  exact ⟨h1.lt, lt_of_heap hb⟩
theorem Ix.len {w : World} {B bx mb nn : Nat} {g : Int} {L M : List ByteArray} {V : List RV} (h : Ix w B bx mb g L M V nn) : V.length ≤ nn := by
  obtain ⟨D, Z, h1, h2, h3, _⟩ := h.rows
  have := h1.size_le
  have := h2.size
  have := h3.perm.length_eq
  rw [List.length_map] at this
  omega
theorem owned_kx {bx mb B : Nat} {w w' : World} {z : RZ} (h : Kx bx mb w w') (ho : Owned B w z) {cs : Array Value} (hb : Blk w bx 73 cs) {es : Array MapEntry} {cl : Nat} (hm : w.heap[mb]? = some (.map es cl)) : Owned B w' z :=
  ⟨h.own ho.d (ho.d.not_blk hb (by decide)) (own_not_map ho.d hm), h.own ho.g (ho.g.not_blk hb (by decide)) (own_not_map ho.g hm), ho.sd, ho.sg⟩
theorem Ix.other {w w' : World} {B bx mb nn B2 bx2 mb2 nn2 : Nat} {g g2 : Int} {L M L2 M2 : List ByteArray} {V V2 : List RV} (h : Ix w B bx mb g L M V nn) (h2 : Ix w B2 bx2 mb2 g2 L2 M2 V2 nn2) (hx : bx ≠ bx2) (hm : mb ≠ mb2) (hk : Kx bx2 mb2 w w') : Ix w' B bx mb g L M V nn := by
  obtain ⟨es2, cl2, hb2⟩ := h2.map
  obtain ⟨A2, n2, c2, E2, m2, d2, hk2, _⟩ := h2.blk
  obtain ⟨A, n, c, E, m, d, h3, h4, h5⟩ := h.blk
  obtain ⟨D, Z, hown, hD, hV, hO⟩ := h.rows
  have hb3 := hown
  obtain ⟨es, cl, hb, _⟩ := hb3
  have e1 : bx ≠ mb2 := fun e => by rw [Blk, e, hb2] at h3; cases h3
  have e2 : mb ≠ bx2 := fun e => by rw [Blk, ← e, hb] at hk2; cases hk2
  refine ⟨h.sch, h.gran, ⟨A, n, c, E, m, d, (hk.block bx h3.lt hx e1).trans h3, hk.own h4 (h4.not_blk hk2 (by decide)) (own_not_map h4 hb2), hk.own h5 (h5.not_blk hk2 (by decide)) (own_not_map h5 hb2)⟩, ⟨D, Z, ?_, hD, hV, fun z hz => owned_kx hk (hO z hz) hk2 hb2⟩, h.ok, h.lx, h.lm⟩
  obtain ⟨es, cl, hb, hF, hs, he⟩ := hown
  exact ⟨es, cl, (hk.block mb (lt_of_heap hb) e2 hm).trans hb, hF, hs, he⟩
theorem Ix.keep {w w' : World} {B bx mb nn : Nat} {g : Int} {L M : List ByteArray} {V : List RV} (h : Ix w B bx mb g L M V nn) (hb : Below w.heap.size w w') : Ix w' B bx mb g L M V nn := by
  obtain ⟨A, n, c, E, m, d, h3, h4, h5⟩ := h.blk
  obtain ⟨D, Z, hown, hD, hV, hO⟩ := h.rows
  exact ⟨h.sch, h.gran, ⟨A, n, c, E, m, d, h3.grown (grown_none hb) (by simp), own_below h4 hb, own_below h5 hb⟩, ⟨D, Z, hown.kept (grown_none hb) (by simp), hD, hV, fun z hz => (hO z hz).keep hb⟩, h.ok, h.lx, h.lm⟩
end Go.Proofs.YtmmeekmiildliaaGreatDoor
