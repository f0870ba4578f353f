/- All blocks that bytes begin with; lists of lists of bytes. -/
import Derived.Test.YtnnagjlpkieobaaDoorYF
namespace Go.Proofs.YtnnagjlpkieobaaDoor
open Go.RowKit
set_option linter.unusedSimpArgs false
set_option linter.unusedVariables false
/-- Slices of bytes, one behind the other, none of which lies in one block. -/
def Rws (w : World) (row : Option Nat) (vs : List Value) (L : List (List Int)) : Prop :=
  vs.length = L.length ∧ ∀ (i : Nat) (xs : List Int), L[i]? = some xs → ∃ A c, vs[i]? = some (.slice A xs.length c) ∧ Row w A (xs.map (Value.int .u8)) ∧ xs.length ≤ c ∧ (A = none → c = 0) ∧ (0 < xs.length → ∀ b off, A = some ⟨b, off, none⟩ → some b ≠ row)
theorem Rws.keep {w w' : World} {row : Option Nat} {vs : List Value} {L : List (List Int)} (h : Rws w row vs L) (hb : Below w.heap.size w w') : Rws w' row vs L :=
  ⟨h.1, fun i xs hi => by obtain ⟨A, c, h1, h2, h3, h4, h5⟩ := h.2 i xs hi; exact ⟨A, c, h1, h2.keep (Nat.le_refl _) hb, h3, h4, h5⟩⟩
theorem Rws.free {w : World} {row : Option Nat} {vs : List Value} {L : List (List Int)} (h : Rws w row vs L) : Rws w none vs L :=
  ⟨h.1, fun i xs hi => by obtain ⟨A, c, h1, h2, h3, h4, h5⟩ := h.2 i xs hi; exact ⟨A, c, h1, h2, h3, h4, fun _ _ _ _ => by simp⟩⟩
theorem Rws.nil (w : World) (row : Option Nat) : Rws w row [] [] := ⟨rfl, fun i xs h => by simp at h⟩
theorem Rws.snoc {w : World} {row : Option Nat} {vs : List Value} {L : List (List Int)} (h : Rws w row vs L) {A : Option Addr} {n c : Nat} {xs : List Int} (hn : n = xs.length) (hr : Row w A (xs.map (Value.int .u8))) (hc : n ≤ c) (ha : A = none → c = 0) (hf : ∀ b off, A = some ⟨b, off, none⟩ → some b ≠ row) :
    Rws w row (vs ++ [.slice A n c]) (L ++ [xs]) := by
  subst hn
  refine ⟨by simp [h.1], fun i ys hi => ?_⟩
  rcases Nat.lt_or_ge i L.length with hl | hl
  · rw [List.getElem?_append_left hl] at hi
    rw [List.getElem?_append_left (by rw [h.1]; exact hl)]
    exact h.2 i ys hi
  · rw [List.getElem?_append_right hl] at hi
    have : i - L.length = 0 := by
      rcases Nat.eq_zero_or_pos (i - L.length) with e | e
      · exact e
      · rw [List.getElem?_eq_none (by simp; omega)] at hi; cases hi
    rw [this] at hi
    simp at hi
    subst hi
    rw [List.getElem?_append_right (by rw [h.1]; exact hl), h.1, this]
    exact ⟨A, c, rfl, hr, hc, ha, fun _ => hf⟩
theorem row_grown {w w' : World} {row : Option Nat} {g off : Nat} {xs : List Value} (hg : w.grownBy w' row) (h : Row w (some ⟨g, off, none⟩) xs) (hne : some g ≠ row) : Row w' (some ⟨g, off, none⟩) xs := by
  rcases h with h | ⟨b, off', he, hc⟩
  · exact .inl h
  · cases he
    exact .inr ⟨_, _, rfl, fun j u hu => hg.cell (hc j u hu) hne⟩
theorem Rws.step {w w' : World} {row row' : Option Nat} {vs : List Value} {L : List (List Int)} (h : Rws w row vs L) (hg : w.grownBy w' row) (hr : row' = row ∨ row' = some w.heap.size) : Rws w' row' vs L :=
  ⟨h.1, fun i xs hi => by
    obtain ⟨A, c, h1, h2, h3, h4, h5⟩ := h.2 i xs hi
    refine ⟨A, c, h1, ?_, h3, h4, fun h0 b off hA => ?_⟩
    · rcases h2 with h2 | ⟨b, off, rfl, hc⟩
      · exact .inl h2
      · rcases Nat.eq_zero_or_pos xs.length with h0 | h0
        · left; rw [List.length_eq_zero_iff.1 h0]; rfl
        · exact row_grown hg (.inr ⟨b, off, rfl, hc⟩) (h5 h0 b off rfl)
    · subst hA
      rcases hr with rfl | rfl
      · exact h5 h0 b off rfl
      · obtain ⟨b', off', he, hc⟩ := Row.cell h2 h0
        cases he
        have := lt_of_cell hc
        intro e; cases e; omega⟩
def blocksF : Nat → List Int → List (List Int) × Nat
  | 0, _ => ([], 0)
  | f + 1, bs => match firstZ bs with
    | none => ([], 0)
    | some (x, k) => (x :: (blocksF f (bs.drop k)).1, k + (blocksF f (bs.drop k)).2)
def blocksZ (bs : List Int) : List (List Int) × Nat := blocksF (bs.length + 1) bs
theorem firstZ_bd {bs x : List Int} {k : Nat} (h : firstZ bs = some (x, k)) : 5 ≤ k ∧ k ≤ bs.length ∧ x.length ≤ bs.length := by
  unfold firstZ at h
  split at h
  · cases h
  · rename_i hc
    simp only [Option.some.injEq, Prod.mk.injEq] at h
    obtain ⟨rfl, rfl⟩ := h
    simp only [not_or, List.length_take, List.length_drop] at hc ⊢
    omega
theorem blocksF_more : ∀ (f g : Nat) (bs : List Int), bs.length < f → bs.length < g → blocksF f bs = blocksF g bs := by
  intro f
  induction f with
  | zero => intro g bs h; omega
  | succ f ih =>
    intro g bs hf hg
    obtain ⟨g, rfl⟩ : ∃ g', g = g' + 1 := ⟨g - 1, by omega⟩
    rw [blocksF, blocksF]
    cases he : firstZ bs with
    | none => rfl
    | some p =>
      obtain ⟨x, k⟩ := p
      have hb := firstZ_bd he
      have := ih g (bs.drop k) (by rw [List.length_drop]; omega) (by rw [List.length_drop]; omega)
      simp only [this]
theorem blocksZ_none {bs : List Int} (h : firstZ bs = none) : blocksZ bs = ([], 0) := by unfold blocksZ; rw [blocksF, h]
theorem blocksZ_some {bs x : List Int} {k : Nat} (h : firstZ bs = some (x, k)) : blocksZ bs = (x :: (blocksZ (bs.drop k)).1, k + (blocksZ (bs.drop k)).2) := by
  have hb := firstZ_bd h
  unfold blocksZ
  rw [blocksF, h]
  simp only
  rw [blocksF_more bs.length ((bs.drop k).length + 1) (bs.drop k) (by rw [List.length_drop]; omega) (by omega)]
theorem own_below {w w' : World} {B : Nat} {e : TypeId} {size : Nat} {v : Value} {n : Nat} {xs : List Value} (h : w.ownsRow B e size v n xs) (hb : Below w.heap.size w w') : w'.ownsRow B e size v n xs :=
  h.kept (row := none) ⟨hb.os, hb.tape, hb.output, hb.size, fun i hi _ => hb.block i hi⟩ (by cases v.ownBlock <;> simp)
theorem own_slice {B : Nat} {w : World} {e : TypeId} {v : Value} {n : Nat} {xs : List Value} (h : w.ownsRow B e 1 v n xs) : ∃ A c, v = .slice A n c ∧ Row w A xs ∧ n ≤ c ∧ (A = none → c = 0) := by
  have hn : n = xs.length := by have := h.1; simpa using this.symm
  rcases h.2 with ⟨rfl, h0⟩ | ⟨g, cap, cur, rfl, _, _, hc, _⟩
  · have hz0 : xs = [] := List.length_eq_zero_iff.1 (by omega)
    exact ⟨none, 0, by rw [h0], .inl hz0, by omega, fun _ => rfl⟩
  · rcases Nat.eq_zero_or_pos n with h0 | h0
    · have hz0 : xs = [] := List.length_eq_zero_iff.1 (by omega)
      exact ⟨_, cap, rfl, .inl hz0, hc, fun h => by cases h⟩
    · obtain ⟨g', cap', he, _, hr⟩ := Row.of_own h h0
      cases he
      exact ⟨_, cap, rfl, hr, hc, fun h => by cases h⟩
theorem Tryd.info22 : (Tryd.prog.info? 22).map (fun i => (i.zero, i.size, i.bytes)) = some (some (.slice none 0 0), 1, 24) := by kernel_rfl
theorem Tryd.underlying29 : Tryd.prog.underlying 29 = some (.slice 22) := by kernel_rfl
def BlocksPost (w : World) (r : List (List Int) × Nat) (e : Ending) (w' : World) : Prop :=
  ∃ A c vs, e = .returned (.tuple #[.slice A r.1.length c, .int .i64 r.2]) ∧ Row w' A vs ∧ Rws w' none vs r.1 ∧ r.1.length ≤ c ∧ (A = none → c = 0) ∧ Below w.heap.size w w'
theorem row_drop {w : World} {A : Option Addr} {zs : List Int} (h : Row w A (zs.map (Value.int .u8))) (k : Nat) : Row w (A.map (·.add k)) ((zs.drop k).map (Value.int .u8)) := by
  rcases h with h | ⟨b, off, rfl, hc⟩
  · simp at h; subst h; exact .inl (by simp)
  · have := ((show Row w (some ⟨b, off, none⟩) (zs.map (Value.int .u8)) from .inr ⟨b, off, rfl, hc⟩).part k).2
    have e : (⟨b, off, none⟩ : Addr).add k = ⟨b, off + k, none⟩ := by
      unfold Addr.add; split
      · rename_i h; subst h; rfl
      · rfl
    simpa [e] using this
set_option maxRecDepth 100000 in
set_option maxHeartbeats 4000000 in
theorem blocks_any (A : Option Addr) (n c : Nat) (bs : List Int) (w : World) (hT : Tab w) (hA : Row w A (bs.map (Value.int .u8))) (hz : n = bs.length) (hnc : n ≤ c) (hn : n ≤ 1000000) (hb : bytes bs) (hnil : A = none → c = 0) :
    Calls Tryd.prog 13 #[.slice A n c] w (BlocksPost w (blocksZ bs)) := by
  obtain ⟨i0, hi0, hz0, hz1, hz2⟩ := info_parts Tryd.info22
  have HT := Lib.hid hT
  have HA := Lib.hid hA
  have HZ := Lib.hid hz
  have HB := Lib.hid hb
  have HNIL := Lib.hid hnil
  obtain ⟨r, hr⟩ : ∃ r, r = blocksZ bs := ⟨_, rfl⟩
  rw [← hr]
  have HR := Lib.hid hr
  clear hT hA hz hb hnil hr
  go_enter Tryd.func13, Tryd.ntmps13
  go_wp2_with fail
  go_loopw [4, 5] (fun v i wr => ∃ (at' k : Nat) (vs : List Value) (D : List (List Int)), at' ≤ n ∧ k = D.length ∧ k ≤ at' ∧ i = .int .i64 at' ∧ Hid (wr.ownsRow w.heap.size 22 1 v k vs) ∧ Hid (Rws wr v.ownBlock vs D) ∧ Hid (Below w.heap.size w wr) ∧ Hid (r = (D ++ (blocksZ (bs.drop at')).1, at' + (blocksZ (bs.drop at')).2))) (fun _ i _ => n - (intOf i).toNat)
  case atStart => exact ⟨0, 0, [], [], by omega, rfl, by omega, rfl, Lib.hid (World.ownsRow_nil _ _ _ _), Lib.hid (Rws.nil _ _), Lib.hid (Below.refl _ _), Lib.hid (by rw [HR.out]; simp)⟩
  case round =>
    obtain ⟨p, k, vs, D, hp, hk, hkp, rfl, HO, HS, HBW, HE⟩ := hrel
    have HK := Lib.hid hk
    clear hk
    obtain ⟨A2, hA2⟩ : ∃ A2, A2 = if c = p then A else A.map (·.add p) := ⟨_, rfl⟩
    have HA2 := Lib.hid (show Row w A2 ((bs.drop p).map (Value.int .u8)) by
      rw [hA2]
      split
      · left; rw [List.drop_of_length_le (by have := HZ.out; omega)]; rfl
      · exact row_drop HA.out p)
    have HN2 := Lib.hid (show A2 = none → c - p = 0 by
      intro h
      rw [hA2] at h
      split at h
      · have := HNIL.out h; omega
      · cases A with
        | none => have := HNIL.out rfl; omega
        | some a => cases h)
    have HZ2 := Lib.hid (show n - p = (bs.drop p).length by rw [List.length_drop, ← HZ.out])
    have HB2 := Lib.hid (show bytes (bs.drop p) from fun z hz => HB.out z (List.mem_of_mem_drop hz))
    cases ho : firstZ (bs.drop p) with
    | none =>
      have HE2 := Lib.hid (show r = (D, p) by rw [HE.out, blocksZ_none ho]; simp)
      have HF := Lib.hid ho
      clear ho HE
      clear hA2 HA2 HN2
      have fin : ∀ w2 : World, Below wr.heap.size wr w2 → ∃ A c vs, (Value.tuple #[u4, .int .i64 (p : Int)]) = .tuple #[.slice A r.1.length c, .int .i64 r.2] ∧ Row w2 A vs ∧ Rws w2 none vs r.1 ∧ r.1.length ≤ c ∧ (A = none → c = 0) ∧ Below w.heap.size w w2 := by
        intro w2 hb2
        obtain ⟨A4, c4, he, h1, h2, h3⟩ := own_slice (own_below HO.out hb2)
        exact ⟨A4, c4, vs, by rw [HE2.out, he]; show _ = Value.tuple #[.slice A4 D.length c4, .int .i64 p]; rw [← HK.out], h1, by rw [HE2.out]; exact (HS.out.keep hb2).free, by rw [HE2.out]; show D.length ≤ c4; rw [← HK.out]; exact h2, h3, bthen HBW.out hb2⟩
      have FIN := Lib.hid fin
      clear fin
      by_cases hcp : c = p
      · have hA0 := HA.out.keep (Nat.le_refl _) HBW.out
        have hd0 : bs.drop p = [] := List.drop_of_length_le (by have := HZ.out; omega)
        have HA0 := Lib.hid (show Row wr A ((bs.drop p).map (Value.int .u8)) from .inl (by rw [hd0]; rfl))
        clear hA0 hd0
        go_wp2_with fail
        refine (first_any A (n - p) 0 (bs.drop p) _ (HT.out.keep HBW.out) HA0.out HZ2.out (by omega) (by omega) HB2.out (fun _ => rfl)).mono ?_
        rw [HF.out]
        rintro e w2 ⟨rfl, hb2⟩
        have HBB := Lib.hid hb2
        clear hb2
        go_wp2_with fail
        go_ret2
        obtain ⟨A4, c4, vs4, he, h⟩ := FIN.out _ HBB.out
        exact ⟨A4, c4, vs4, by rw [← he]; rfl, h⟩
      · have HN0 := Lib.hid (show A.map (·.add p) = none → c - p = 0 by
          intro h
          cases A with
          | none => have := HNIL.out rfl; omega
          | some a => cases h)
        go_wp2_with fail
        refine (first_any (A.map (·.add p)) (n - p) (c - p) (bs.drop p) _ (HT.out.keep HBW.out) (row_drop (HA.out.keep (Nat.le_refl _) HBW.out) p) HZ2.out (by omega) (by omega) HB2.out HN0.out).mono ?_
        rw [HF.out]
        rintro e w2 ⟨rfl, hb2⟩
        have HBB := Lib.hid hb2
        clear hb2
        go_wp2_with fail
        go_ret2
        obtain ⟨A4, c4, vs4, he, h⟩ := FIN.out _ HBB.out
        exact ⟨A4, c4, vs4, by rw [← he]; rfl, h⟩
    | some q =>
      obtain ⟨x, m⟩ := q
      have hbd := firstZ_bd ho
      rw [← HZ2.out] at hbd
      obtain ⟨hm1, hm2, hm3⟩ := hbd
      have HE2 := Lib.hid (show r = ((D ++ [x]) ++ (blocksZ (bs.drop (p + m))).1, (p + m) + (blocksZ (bs.drop (p + m))).2) by
        rw [HE.out, blocksZ_some ho, List.drop_drop]; simp [Nat.add_assoc])
      have HF := Lib.hid ho
      have hw1 : IntKind.i64.wrap ((p : Int) + (m : Int)) = (p : Int) + (m : Int) := IntWalk.i64_in _ (by omega)
      clear ho HE
      clear hA2 HA2 HN2
      have hcp : ¬ c = p := by omega
      have HN0 := Lib.hid (show A.map (·.add p) = none → c - p = 0 by
        intro h
        cases A with
        | none => have := HNIL.out rfl; omega
        | some a => cases h)
      go_wp2_with fail
      refine (first_any (A.map (·.add p)) (n - p) (c - p) (bs.drop p) _ (HT.out.keep HBW.out) (row_drop (HA.out.keep (Nat.le_refl _) HBW.out) p) HZ2.out (by omega) (by omega) HB2.out HN0.out).mono ?_
      rw [HF.out]
      rintro e w2 ⟨A3, c3, rfl, ho3, hr3, hb2⟩
      obtain ⟨z, hz⟩ : ∃ z, z = x.length := ⟨_, rfl⟩
      rw [← hz] at ho3 ⊢
      obtain ⟨A5, c5, he5, h51, h52, h53⟩ := own_slice ho3
      cases he5
      have hown := own_below HO.out hb2
      have hfar : ∀ b off, A3 = some ⟨b, off, none⟩ → some b ≠ u4.ownBlock := by
        intro b off hA e
        subst hA
        have h1 := (ho3.lt b rfl).1
        have h2 := (HO.out.lt b e.symm).2
        omega
      have HS2 := Lib.hid ((HS.out.keep hb2).snoc hz hr3 h52 h53 hfar)
      have HBW2 := Lib.hid (bthen HBW.out hb2)
      clear hb2 ho3 hr3 h51 h53 hz hfar
      go_wp2_with (at_builtin; refine wpList_append_own_at _ rfl _ _ 29 rfl w.heap.size 22 i0 (.slice none 0 0) 1 24 Tryd.underlying29 hi0 hz0 hz1 hz2 rfl (by decide) _ _ _ rfl (hown.alloc _) ⟨w2.heap.size, 0, none⟩ 1 1 [.slice A3 z c3] rfl rfl ?c1 ?c2 ?c3 ?c4 ?c5 ?_)
      case c1 => intro j u hj; match j, hj with | 0, hj => simp at hj; subst hj; simp [Addr.add]
      case c2 => intro u hu; simp at hu; subst hu; rfl
      case c3 => unfold maxLen; omega
      case c4 => omega
      case c5 => have := HBW2.out.size; simp; omega
      intro v' w3 hown' hgrow _ hrow
      have HB3 := Lib.hid (show Below w.heap.size w w3 from (bpush HBW2.out _).grown hgrow (by have := HBW2.out.size; simp; omega) (fun k hk => (hown.lt k hk).1))
      have HS3 := Lib.hid ((HS2.out.keep (bpush (Below.refl _ _) _)).step hgrow (by simpa using hrow))
      have HO3 := Lib.hid hown'
      clear hown' hgrow hrow hown
      go_wp2_with fail
      go_roundw
      case rel => exact ⟨p + m, k + 1, _, D ++ [x], by omega, by rw [HK.out]; simp, by omega, by go_num, HO3, HS3, HB3, HE2⟩
      case measure => simp [intOf]; omega
end Go.Proofs.YtnnagjlpkieobaaDoor
