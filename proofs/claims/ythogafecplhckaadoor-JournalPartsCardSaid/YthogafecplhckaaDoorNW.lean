/- What a journal keeps: plain facts; own rows beside a vault. -/
import Derived.Test.YthogafecplhckaaDoorNM
import Derived.Test.YthogafecplhckaaDoorNQT
namespace Go.Proofs.YthogafecplhckaaDoor
open Go.RowKit Go.Maps Go.Shelf
set_option linter.unusedSimpArgs false
set_option linter.unusedVariables false
/-- Entries told and asked of a vault. -/
structure Kp (L M : List ByteArray) (P : VZ) (j : Nat) (T K : List EZ) : Prop where
  ok : VOk P
  room : P.room = 16777216
  len : P.F.length ≤ j
  used : usedF P.F ≤ 5000 * j
  right : ∀ z ∈ K, rightJ L M z
  tell : ∃ X more, X.length ≤ 1 ∧ K = T ++ X ++ more ∧ cntZ P aN = flatJ (T ++ X) ∧ sfZ P aN = (flatJ T).length ∧ (brkZ P = true ∨ (X = [] ∧ more = []))
theorem jblock_len {L M : List ByteArray} (hL : L.length ≤ 100) (hM : M.length ≤ 100) {z : EZ} (h : rightJ L M z) : (blockL (encJ z)).length ≤ 4500 := by
  have := flatJ_len hL hM (Z := [z]) (fun y hy => by rw [List.mem_singleton.1 hy]; exact h)
  simpa [flatJ] using this
theorem Kp.start {L M : List ByteArray} {P : VZ} (hF : P.F = []) (hr : P.room = 16777216) : Kp L M P 0 [] [] :=
  ⟨⟨by rw [hF]; exact List.Pairwise.nil, fun f hf => by rw [hF] at hf; cases hf⟩, hr, by rw [hF]; exact Nat.le_refl _, by rw [hF]; exact Nat.le_refl _, (fun z hz => by cases hz),
    [], [], Nat.zero_le _, rfl, by unfold cntZ; rw [hF]; rfl, by unfold sfZ; rw [hF]; rfl, .inr ⟨rfl, rfl⟩⟩
theorem Kp.step {L M : List ByteArray} {P : VZ} {j : Nat} {T K : List EZ} {z : EZ} (h : Kp L M P j T K) (hj : j ≤ 100) (hL : L.length ≤ 100) (hM : M.length ≤ 100) (hz : rightJ L M z) (X : VZ × Int) (hX : X = jappS P aN (blockL (encJ z))) :
    (X.2 = 0 ∧ Kp L M X.1 (j + 1) (T ++ [z]) (K ++ [z])) ∨ (X.2 = 272 ∧ brkZ X.1 = true ∧ Kp L M X.1 (j + 1) T (K ++ [z])) := by
  have hbl := jblock_len hL hM hz
  have hR : ∀ y ∈ K ++ [z], rightJ L M y := fun y hy => by
    rcases List.mem_append.1 hy with h1 | h1
    · exact h.right y h1
    · rw [List.mem_singleton.1 h1]; exact hz
  obtain ⟨Y, more, h1, h2, h3, h4, h5⟩ := h.tell
  have h6 := h.used
  have h7 := h.len
  have h8 := h.room
  cases hb : brkZ P with
  | true =>
    rw [japp_broken a_name hb] at hX
    subst hX
    exact .inr ⟨rfl, hb, h.ok, h8, (by show P.F.length ≤ _; omega), (by show usedF P.F ≤ _; omega), hR, Y, more ++ [z], h1, by rw [h2]; simp, h3, h4, .inl hb⟩
  | false =>
    have h9 : Y = [] ∧ more = [] := by
      rcases h5 with h5 | h5
      · rw [hb] at h5; cases h5
      · exact h5
    obtain ⟨rfl, rfl⟩ := h9
    simp only [List.append_nil] at h2 h3
    subst h2
    have hc := japp_case (bs := blockL (encJ z)) h.ok a_name (by omega) (by omega)
    rw [← hX] at hc
    clear hX
    cases hc with
    | well P' k1 k2 k3 =>
      refine .inl ⟨rfl, k1.ok, k1.room.trans h8, (by have := k1.len; show P'.F.length ≤ _; omega), (by have := k1.used; show usedF P'.F ≤ _; omega), hR, [], [], Nat.zero_le _, by simp, ?_, ?_, .inr ⟨rfl, rfl⟩⟩
      · rw [k1.cnt, h3, List.append_nil, flatJ_snoc]
      · rw [k2, h3, flatJ_snoc]
    | none P' k1 k2 k3 =>
      refine .inr ⟨rfl, k3, ⟨by rw [k1]; exact h.ok.one, by rw [k1]; exact h.ok.n⟩, k2.trans h8, (by show P'.F.length ≤ _; rw [k1]; omega), (by show usedF P'.F ≤ _; rw [k1]; omega), hR, [], [z], Nat.zero_le _, by simp, ?_, ?_, .inl k3⟩
      · unfold cntZ; rw [k1, List.append_nil]; exact h3
      · unfold sfZ; rw [k1]; exact h4
    | half P' k1 k2 k3 =>
      refine .inr ⟨rfl, k3, k1.ok, k1.room.trans h8, (by have := k1.len; show P'.F.length ≤ _; omega), (by have := k1.used; show usedF P'.F ≤ _; omega), hR, [z], [], Nat.le_refl _, by simp, ?_, ?_, .inl k3⟩
      · rw [k1.cnt, h3, flatJ_snoc]
      · rw [k2, h4]
theorem Kp.mono {L M : List ByteArray} {P : VZ} {j k : Nat} {T K : List EZ} (h : Kp L M P j T K) (hk : j ≤ k) : Kp L M P k T K := ⟨h.ok, h.room, by have := h.len; omega, by have := h.used; omega, h.right, h.tell⟩
theorem Kp.cnt_len {L M : List ByteArray} {P : VZ} {j : Nat} {T K : List EZ} (h : Kp L M P j T K) (hL : L.length ≤ 100) (hM : M.length ≤ 100) (hs : ∀ f ∈ P.F, f.safe ≤ f.n) (hK : K.length ≤ 40) (t : Int) : (cntZ (crashS t P) aN).length ≤ 200000 := by
  obtain ⟨X, more, h1, h2, h3, h4, h5⟩ := h.tell
  rw [crash_cnt P t h.ok hs, h3, List.length_take]
  have h6 := flatJ_len hL hM (Z := T ++ X) (fun y hy => h.right y (by rw [h2]; exact List.mem_append_left _ hy))
  have h7 : (T ++ X).length ≤ 40 := by rw [h2, List.length_append] at hK; omega
  omega
theorem Kp.crash {L M : List ByteArray} {P : VZ} {j : Nat} {T K : List EZ} (h : Kp L M P j T K) (hL : L.length ≤ 100) (hM : M.length ≤ 100) (hs : ∀ f ∈ P.F, f.safe ≤ f.n) (t : Int) :
    ∃ Y, JRun L M Y (flatJ Y).length (cntZ (crashS t P) aN) ∧ T.length ≤ Y.length ∧ Y.length ≤ T.length + 1 ∧ Y.length ≤ K.length ∧ Y = K.take Y.length := by
  obtain ⟨X, more, h1, h2, h3, h4, h5⟩ := h.tell
  rw [crash_cnt P t h.ok hs, h3, h4]
  have hRT : ∀ y ∈ T, rightJ L M y := fun y hy => h.right y (by rw [h2]; simp [hy])
  rcases X with _ | ⟨x, X⟩
  · rw [List.append_nil] at h2 ⊢
    have hk : kOf t (flatJ T).length (flatJ T).length = (flatJ T).length := by unfold kOf; omega
    rw [hk, List.take_length]
    exact ⟨T, run_all hL hM hRT, Nat.le_refl _, by omega, by rw [h2]; simp, by rw [h2, List.take_left]⟩
  · have hX : X = [] := by simpa using h1
    subst hX
    have hx : rightJ L M x := h.right x (by rw [h2]; simp)
    have hk : (flatJ (T ++ [x])).take (kOf t (flatJ (T ++ [x])).length (flatJ T).length) = flatJ T ++ (blockL (encJ x)).take (min t.toNat ((flatJ (T ++ [x])).length - (flatJ T).length)) := by
      unfold kOf
      rw [flatJ_snoc, List.take_append, List.take_of_length_le (by omega)]
      congr 2
      omega
    rw [hk]
    rcases run_cut hL hM hRT hx (min t.toNat ((flatJ (T ++ [x])).length - (flatJ T).length)) with h6 | h6
    · exact ⟨T, h6, Nat.le_refl _, by omega, by rw [h2]; simp, by rw [h2, List.append_assoc, List.take_left]⟩
    · exact ⟨T ++ [x], h6, by simp, by simp, by rw [h2]; simp, by rw [h2, List.take_left]⟩
theorem own_frS {w w' : World} {B n size : Nat} {e : TypeId} {v : Value} {xs : List Value} {S : Nat → Prop} (h : w.ownsRow B e size v n xs) (hf : Fr S w w') (hs : ∀ b, v.ownBlock = some b → ¬ S b) : w'.ownsRow B e size v n xs := by
  rcases h.2 with ⟨rfl, h0⟩ | ⟨g, cap, cur, rfl, h1, h2, h3, h4, h5, h6⟩
  · exact ⟨h.1, .inl ⟨rfl, h0⟩⟩
  · exact ⟨h.1, .inr ⟨g, cap, cur, rfl, h1, (hf.block g (lt_of_heap h2) (hs g rfl)).trans h2, h3, h4, h5, h6⟩⟩
/-- A row of entries lies in no block of a vault. -/
theorem foot_ents {w : World} {B B' a n : Nat} {V : VZ} {v : Value} {xs : List Value} (hv : VRep w B a V) (h : w.ownsRow B' 46 5 v n xs) {g : Nat} (hg : v.ownBlock = some g) : ¬ Foot a V g := by
  rcases h.2 with ⟨rfl, _⟩ | ⟨g', cap, cur, rfl, _, hc, _⟩
  · cases hg
  · obtain rfl : g' = g := by simpa [Value.ownBlock] using hg
    rintro (h1 | h1 | ⟨f, hf, h1⟩)
    · subst h1
      have := hv.core.blk
      unfold Blk at this
      rw [hc] at this
      cases this
    · subst h1
      obtain ⟨m, es, clock, e, r⟩ := hv.core.map
      rw [hc] at e
      cases e
    · obtain ⟨_, _, cs, fz, h2⟩ := (hv.own f hf).lt h1
      rw [hc] at h2
      cases h2
theorem Left.ents {w w' : World} {B B' a n : Nat} {V V' : VZ} {v : Value} {xs : List Value} (hv : VRep w B a V) (hl : Left w w' B a V V') (h : w.ownsRow B' 46 5 v n xs) : w'.ownsRow B' 46 5 v n xs :=
  own_frS h hl.fr fun b hb => foot_ents hv h hb
theorem VRep.grown {w w' : World} {B B' a n : Nat} {V : VZ} {v : Value} {xs : List Value} (hv : VRep w B a V) (h : w.ownsRow B' 46 5 v n xs) (hg : w.grownBy w' v.ownBlock) : VRep w' B a V :=
  hv.fr (Fr.of_grown hg) fun i hi hs => foot_ents hv h hs hi
/-- Two rows stand apart. -/
def Ap (v u : Value) : Prop := v.ownBlock = none ∨ v.ownBlock ≠ u.ownBlock
theorem Ap.symm {v u : Value} (h : Ap v u) : Ap u v := by
  unfold Ap at h ⊢
  rcases h with h | h
  · cases hu : u.ownBlock with
    | none => exact .inl rfl
    | some b => exact .inr (by rw [h]; simp)
  · exact .inr fun e => h e.symm
theorem Ap.more {w : World} {B n size : Nat} {e : TypeId} {v u u' : Value} {xs : List Value} (h : Ap v u) (hv : w.ownsRow B e size v n xs) (hr : u'.ownBlock = u.ownBlock ∨ u'.ownBlock = some w.heap.size) : Ap v u' := by
  rcases h with h | h
  · exact .inl h
  · rcases hr with hr | hr
    · exact .inr (by rw [hr]; exact h)
    · cases hb : v.ownBlock with
      | none => exact .inl hb
      | some b =>
        have := hv.lt b hb
        exact .inr (by rw [hb, hr]; intro e; cases e; omega)
/-- An entry at its place in a list. -/
theorem EntsC.cells {w : World} {b off : Nat} {Z : List EZ} {k : Nat} (h : EntsC w (some ⟨b, off, none⟩) Z) (hk : k < Z.length) :
    w.cell? ⟨b, off + k * 5, none⟩ = some (.bool Z[k].tick) ∧ w.cell? ⟨b, off + k * 5 + 1, none⟩ = some (.int .i64 Z[k].now) ∧ w.cell? ⟨b, off + k * 5 + 2, none⟩ = some (.int .i64 Z[k].ev.t) ∧
      w.cell? ⟨b, off + k * 5 + 3, none⟩ = some (.slice Z[k].ev.E Z[k].ev.p Z[k].ev.q) ∧ w.cell? ⟨b, off + k * 5 + 4, none⟩ = some (.slice Z[k].ev.F Z[k].ev.x Z[k].ev.y) := by
  obtain ⟨b', off', he, h⟩ := h.at hk
  cases he
  exact h
theorem EntsC.upto {w : World} {A : Option Addr} {Z : List EZ} (h : EntsC w A Z) (k : Nat) : EntsC w A (Z.take k) := by
  refine ⟨?_, fun z hz => h.good z (List.mem_of_mem_take hz)⟩
  rcases h.row with h0 | ⟨b, off, he, hc⟩
  · have : Z = [] := by
      have := cellsJ_length Z
      rw [h0] at this
      exact List.eq_nil_of_length_eq_zero (by simp at this; omega)
    rw [this]; exact .inl (by simp [cellsJ])
  · refine .inr ⟨b, off, he, fun j u hu => hc j u ?_⟩
    have e : cellsJ Z = cellsJ (Z.take k) ++ cellsJ (Z.drop k) := by rw [← cellsJ_app, List.take_append_drop]
    rw [e, List.getElem?_append_left (List.getElem?_eq_some_iff.1 hu).1]
    exact hu
theorem slice_ents (W : World) (D : Option Addr) (n c k : Nat) (hk : k ≤ c) (hD : D = none → c = 0) : ∃ E, Sem.run Tryd.prog (Instr.slice 33 (.slice D n c) none (some (.int .i64 (k : Int))) none) W = .ok (.slice E k c) W ∧ ∀ Z : List EZ, EntsC W D Z → EntsC W E Z := by
  have e : Tryd.prog.elem 33 = 46 := by kernel_rfl
  have hs : ∀ W, Sem.run Tryd.prog (Go.sizeOf (Tryd.prog.elem 33)) W = .ok 5 W := fun _ => by kernel_rfl
  refine ⟨D, ?_, fun Z h => h⟩
  rw [run_slice_h W 33 D n c (by rw [e]; exact Tryd.underlying33) .i64 k (by omega) (by omega), hs]
  simp only [Result.andThen, sliced, Int.toNat_natCast]
  have : D.map (·.add (0 * 5)) = D := by
    cases D with
    | none => rfl
    | some a => simp [Addr.add]
  rw [this]
  simp
end Go.Proofs.YthogafecplhckaaDoor
