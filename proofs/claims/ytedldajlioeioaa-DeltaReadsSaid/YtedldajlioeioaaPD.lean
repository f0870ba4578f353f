/- A list's bytes, and the list that bytes may be of: plain mathematics. -/
import Derived.Test.YtedldajlioeioaaPC
import Derived.Laws.AppendOwnNone
import Derived.Maps.AppendAt
namespace Go.Proofs.Ytedldajlioeioaa
open Go.RowKit
set_option linter.unusedSimpArgs false
set_option linter.unusedVariables false
theorem enc_bd (v : Int) : 1 ≤ (encV v).length ∧ (encV v).length ≤ 10 := by rw [encV, encI_length]; exact groups_bd _
theorem enc_bytes (v : Int) : bytes (encV v) := by
  intro x hx
  obtain ⟨i, hi, rfl⟩ := List.mem_map.1 hx
  unfold byteI
  split <;> omega
theorem append_bytes {ops : Array Oper} {rest : List Oper} {o : Oper} {a : Act} {Q : Exit → Act → World → Prop} {w : World} (hgd : o.guard = none) (s x : Operand)
    (ho : o.op = .call { callee := .builtin .append, args := #[s, x], argTypes := #[24, 24] }) (B : Nat) (v : Value) (hs : a.eval s = v) (m : Nat) (M : List Int) (hown : w.ownsRow B 5 1 v m (M.map (Value.int .u8)))
    (A : Option Addr) (n c : Nat) (L : List Int) (hx : a.eval x = .slice A n c) (hA : Row w A (L.map (Value.int .u8))) (hz : n = L.length) (hnone : A = none → n = 0 ∧ c = 0) (hn : m + n ≤ 100000000) (hB : B ≤ w.heap.size)
    (h : ∀ v' w', w'.ownsRow B 5 1 v' (m + n) ((M ++ L).map (Value.int .u8)) → Below B w w' → wpList Try.prog ops Q rest (a.put o.dst v') w') : wpList Try.prog ops Q (o :: rest) a w := by
  obtain ⟨i0, hi0, hz0, hz1, hz2⟩ := info_parts Try.info5
  cases A with
  | none =>
    obtain ⟨rfl, rfl⟩ := hnone rfl
    have hl : L = [] := List.length_eq_zero_iff.1 hz.symm
    subst hl
    exact wpList_append_own_none hgd s x 24 ho B 5 i0 1 Try.underlying24 hi0 v m _ hs hown hx (h v w (by simpa using hown) (Below.refl _ _))
  | some ad =>
    have hnews : ∀ j u, (L.map (Value.int .u8))[j]? = some u → w.cell? (ad.add j) = some u := by
      intro j u hu
      rcases hA with h0 | ⟨b, off, he, hc⟩
      · rw [h0] at hu; simp at hu
      · cases he
        have hadd : (⟨b, off, none⟩ : Addr).add j = ⟨b, off + j, none⟩ := by
          unfold Addr.add; split
          · rename_i h; subst h; rfl
          · rfl
        rw [hadd]; exact hc j u hu
    refine wpList_append_own w hgd s x 24 ho B 5 i0 (.int .u8 0) 1 1 Try.underlying24 hi0 hz0 hz1 hz2 rfl (by decide) v m _ hs hown ad n c (L.map (Value.int .u8)) hx (by rw [List.length_map, hz, Nat.mul_one]) hnews ?_ (by unfold maxLen; omega) (by omega) hB ?_
    · intro u hu
      obtain ⟨q, _, rfl⟩ := List.mem_map.1 hu; rfl
    · intro v' w' hown' hgrow _
      refine h v' w' ?_ ((Below.refl B w).grown hgrow hB (fun k hk => (hown.lt k hk).1))
      rw [List.map_append]; exact hown'
theorem append_bytes2 {ops : Array Oper} {rest : List Oper} {o : Oper} {a : Act} {Q : Exit → Act → World → Prop} {w : World} (hgd : o.guard = none) (s x : Operand)
    (ho : o.op = .call { callee := .builtin .append, args := #[s, x], argTypes := #[24, 24] }) (B : Nat) (v : Value) (hs : a.eval s = v) (m : Nat) (M : List Int) (hown : w.ownsRow B 5 1 v m (M.map (Value.int .u8)))
    (A : Option Addr) (n c : Nat) (L : List Int) (hx : a.eval x = .slice A n c) (hA : Row w A (L.map (Value.int .u8))) (hz : n = L.length) (hnone : A = none → n = 0 ∧ c = 0) (hn : m + n ≤ 100000000) (hB : B ≤ w.heap.size)
    (h : ∀ v' w', w'.ownsRow B 5 1 v' (m + n) ((M ++ L).map (Value.int .u8)) → Below B w w' → w.grownBy w' v.ownBlock → (v'.ownBlock = v.ownBlock ∨ v'.ownBlock = some w.heap.size) → wpList Try.prog ops Q rest (a.put o.dst v') w') : wpList Try.prog ops Q (o :: rest) a w := by
  obtain ⟨i0, hi0, hz0, hz1, hz2⟩ := info_parts Try.info5
  cases A with
  | none =>
    obtain ⟨rfl, rfl⟩ := hnone rfl
    have hl : L = [] := List.length_eq_zero_iff.1 hz.symm
    subst hl
    exact wpList_append_own_none hgd s x 24 ho B 5 i0 1 Try.underlying24 hi0 v m _ hs hown hx (h v w (by simpa using hown) (Below.refl _ _) (World.grownBy.refl w _) (.inl rfl))
  | some ad =>
    have hnews : ∀ j u, (L.map (Value.int .u8))[j]? = some u → w.cell? (ad.add j) = some u := by
      intro j u hu
      rcases hA with h0 | ⟨b, off, he, hc⟩
      · rw [h0] at hu; simp at hu
      · cases he
        have hadd : (⟨b, off, none⟩ : Addr).add j = ⟨b, off + j, none⟩ := by
          unfold Addr.add; split
          · rename_i h; subst h; rfl
          · rfl
        rw [hadd]; exact hc j u hu
    refine wpList_append_own_at w hgd s x 24 ho B 5 i0 (.int .u8 0) 1 1 Try.underlying24 hi0 hz0 hz1 hz2 rfl (by decide) v m _ hs hown ad n c (L.map (Value.int .u8)) hx (by rw [List.length_map, hz, Nat.mul_one]) hnews ?_ (by unfold maxLen; omega) (by omega) hB ?_
    · intro u hu
      obtain ⟨q, _, rfl⟩ := List.mem_map.1 hu; rfl
    · intro v' w' hown' hgrow _ hrow
      refine h v' w' ?_ ((Below.refl B w).grown hgrow hB (fun k hk => (hown.lt k hk).1)) hgrow hrow
      rw [List.map_append]; exact hown'
theorem bytes_slice {B : Nat} {w : World} {v : Value} {n : Nat} {xs : List Int} (h : w.ownsRow B 5 1 v n (xs.map (Value.int .u8))) : ∃ A c, v = .slice A n c ∧ Row w A (xs.map (Value.int .u8)) ∧ n ≤ c ∧ (A = none → n = 0 ∧ c = 0) := by
  have hn : n = xs.length := by have := h.1; simpa using this.symm
  rcases h.2 with ⟨rfl, h0⟩ | ⟨g, cap, cur, rfl, _, _, hc, _⟩
  · have hz0 : xs = [] := List.length_eq_zero_iff.1 (by omega)
    exact ⟨none, 0, by rw [h0], .inl (by rw [hz0]; rfl), by omega, fun _ => ⟨h0, rfl⟩⟩
  · rcases Nat.eq_zero_or_pos n with h0 | h0
    · have hz0 : xs = [] := List.length_eq_zero_iff.1 (by omega)
      exact ⟨_, cap, rfl, .inl (by rw [hz0]; rfl), hc, fun h => by cases h⟩
    · obtain ⟨g', cap', he, _, hr⟩ := Row.of_own h h0
      cases he
      exact ⟨_, cap, rfl, hr, hc, fun h => by cases h⟩
/-- A row that lies in no block of one kind. -/
def RowN (w : World) (row : Option Nat) (A : Option Addr) (xs : List Value) : Prop := Row w A xs ∧ ∀ b off, A = some ⟨b, off, none⟩ → 0 < xs.length → some b ≠ row
theorem RowN.keep {w w' : World} {row : Option Nat} {A : Option Addr} {xs : List Value} (h : RowN w row A xs) (hb : Below w.heap.size w w') : RowN w' row A xs := ⟨h.1.keep (Nat.le_refl _) hb, h.2⟩
theorem RowN.step {w w' : World} {row row' : Option Nat} {A : Option Addr} {xs : List Value} (h : RowN w row A xs) (hg : w.grownBy w' row) (hr : row' = row ∨ row' = some w.heap.size) : RowN w' row' A xs := by
  obtain ⟨h1, h2⟩ := h
  rcases h1 with h1 | ⟨b, off, rfl, hc⟩
  · exact ⟨.inl h1, fun b off e h0 => by rw [h1] at h0; simp at h0⟩
  · rcases Nat.eq_zero_or_pos xs.length with h0 | h0
    · have e0 := List.length_eq_zero_iff.1 h0
      exact ⟨.inl e0, fun b off e h1 => by omega⟩
    · have hne := h2 b off rfl h0
      refine ⟨.inr ⟨b, off, rfl, fun j u hu => hg.cell (hc j u hu) hne⟩, fun b' off' e _ => ?_⟩
      cases e
      have hlt := lt_of_cell (hc 0 (xs[0]) (List.getElem?_eq_getElem h0))
      rcases hr with rfl | rfl
      · exact hne
      · intro e; cases e; omega
/-- The numbers of a list that has one, behind how many they are. -/
def bodyZ (a : Int) (l : List Int) : List Int :=
  encV a ++ (encV (leastZ (stepsZ l)) ++ (encV (widthN (offZ l) : Int) ++ packL (offZ l) (widthN (offZ l))))
/-- A list's bytes. -/
def encZ (l : List Int) : List Int := encV (l.length : Int) ++ match l with | [] => [] | a :: _ => bodyZ a l
theorem numP_split {v : Int} (h : i64 v) (rest : List Int) : numP (encV v ++ rest) = (v, (encV v).length) := by
  unfold i64 at h
  rw [numP_enc h.1 h.2, encV, encI_length]
theorem enc_drop (v : Int) (rest : List Int) : (encV v ++ rest).drop (encV v).length = rest := by rw [List.drop_left]
/-- What bytes may be of: read as a list's. -/
def readZ (bs : List Int) : Option (List Int) :=
  if (numP bs).2 = 0 ∨ (numP bs).1 < 0 ∨ 65536 < (numP bs).1 then none
  else if (numP bs).1 = 0 then some []
  else
    let b1 := bs.drop (numP bs).2
    if (numP b1).2 = 0 then none
    else
      let b2 := b1.drop (numP b1).2
      if (numP b2).2 = 0 then none
      else
        let b3 := b2.drop (numP b2).2
        if (numP b3).2 = 0 ∨ (numP b3).1 < 0 ∨ 64 < (numP b3).1 then none
        else
          let p := b3.drop (numP b3).2
          let m := (numP bs).1.toNat - 1
          let W := (numP b3).1.toNat
          if p.length = sizeN m W ∧ numF (bitB p) (m * W) (8 * p.length - m * W) = 0 then some (walkZ (numP b2).1 (numP b1).1 (unp p W m)) else none
theorem read_n {bs : List Int} {v : Int} {k : Nat} (h : numP bs = (v, k)) (hb : k = 0 ∨ v < 0 ∨ 65536 < v) : readZ bs = none := by
  unfold readZ; rw [h]; simp only; rw [if_pos hb]
theorem read_0 {bs : List Int} {k : Nat} (h : numP bs = (0, k)) (hk : 0 < k) : readZ bs = some [] := by
  unfold readZ; rw [h]; simp only; rw [if_neg (by omega), if_pos trivial]
section
variable {bs : List Int} {n k1 k2 k3 k4 : Nat} {f b w : Int}
theorem read_f (h : numP bs = ((n : Int), k1)) (hk : 0 < k1) (hn : 1 ≤ n) (hn2 : n ≤ 65536) (h2 : numP (bs.drop k1) = (f, 0)) : readZ bs = none := by
  unfold readZ; rw [h]; simp only; rw [if_neg (by omega), if_neg (by omega), h2, if_pos rfl]
theorem read_b (h : numP bs = ((n : Int), k1)) (hk : 0 < k1) (hn : 1 ≤ n) (hn2 : n ≤ 65536) (h2 : numP (bs.drop k1) = (f, k2)) (hk2 : 0 < k2) (h3 : numP ((bs.drop k1).drop k2) = (b, 0)) : readZ bs = none := by
  unfold readZ; rw [h]; simp only; rw [if_neg (by omega), if_neg (by omega), h2]; simp only; rw [if_neg (by omega), h3, if_pos rfl]
theorem read_w (h : numP bs = ((n : Int), k1)) (hk : 0 < k1) (hn : 1 ≤ n) (hn2 : n ≤ 65536) (h2 : numP (bs.drop k1) = (f, k2)) (hk2 : 0 < k2) (h3 : numP ((bs.drop k1).drop k2) = (b, k3)) (hk3 : 0 < k3) (h4 : numP (((bs.drop k1).drop k2).drop k3) = (w, k4)) (hb : k4 = 0 ∨ w < 0 ∨ 64 < w) : readZ bs = none := by
  unfold readZ; rw [h]; simp only; rw [if_neg (by omega), if_neg (by omega), h2]; simp only; rw [if_neg (by omega), h3]; simp only; rw [if_neg (by omega), h4]; simp only; rw [if_pos hb]
theorem read_p {W : Nat} (h : numP bs = ((n : Int), k1)) (hk : 0 < k1) (hn : 1 ≤ n) (hn2 : n ≤ 65536) (h2 : numP (bs.drop k1) = (f, k2)) (hk2 : 0 < k2) (h3 : numP ((bs.drop k1).drop k2) = (b, k3)) (hk3 : 0 < k3) (h4 : numP (((bs.drop k1).drop k2).drop k3) = ((W : Int), k4)) (hk4 : 0 < k4) (hw : W ≤ 64) :
    readZ bs = if ((((bs.drop k1).drop k2).drop k3).drop k4).length = sizeN (n - 1) W ∧ numF (bitB ((((bs.drop k1).drop k2).drop k3).drop k4)) ((n - 1) * W) (8 * ((((bs.drop k1).drop k2).drop k3).drop k4).length - (n - 1) * W) = 0 then some (walkZ b f (unp ((((bs.drop k1).drop k2).drop k3).drop k4) W (n - 1))) else none := by
  unfold readZ; rw [h]; simp only; rw [if_neg (by omega), if_neg (by omega), h2]; simp only; rw [if_neg (by omega), h3]; simp only; rw [if_neg (by omega), h4]; simp only; rw [if_neg (by omega), Int.toNat_natCast, Int.toNat_natCast]
end
theorem width_lt {l : List Int} : ∀ x ∈ offZ l, x < 2 ^ widthN (offZ l) := (widthN_le (off_small l) _).1 (Nat.le_refl _)
/-- What a list's bytes are read as is the list. -/
theorem read_enc {l : List Int} (hl : ints l) (hn : l.length ≤ 65536) : readZ (encZ l) = some l := by
  cases l with
  | nil =>
    refine read_0 (k := (encV 0).length) ?_ (by have := enc_bd 0; omega)
    exact numP_split (by unfold i64; omega) []
  | cons a l =>
    obtain ⟨L, hL⟩ : ∃ L, L = a :: l := ⟨_, rfl⟩
    have hlen : 1 ≤ L.length := by rw [hL]; simp
    have e : encZ (a :: l) = encV (L.length : Int) ++ bodyZ a L := by rw [hL]; rfl
    rw [← hL] at hl hn
    have h1 : numP (encZ (a :: l)) = ((L.length : Int), (encV (L.length : Int)).length) := by rw [e]; exact numP_split (by unfold i64; omega) _
    have d1 : (encZ (a :: l)).drop (encV (L.length : Int)).length = bodyZ a L := by rw [e, enc_drop]
    have ha : i64 a := hl a (by rw [hL]; simp)
    have hb : i64 (leastZ (stepsZ L)) := least_ints (steps_ints L)
    have hw := widthN_le64 (offZ L)
    have p1 : ∀ v : Int, 0 < (encV v).length := fun v => (enc_bd v).1
    have d2 : (bodyZ a L).drop (encV a).length = encV (leastZ (stepsZ L)) ++ (encV (widthN (offZ L) : Int) ++ packL (offZ L) (widthN (offZ L))) := by rw [bodyZ, enc_drop]
    have d3 : (encV (leastZ (stepsZ L)) ++ (encV (widthN (offZ L) : Int) ++ packL (offZ L) (widthN (offZ L)))).drop (encV (leastZ (stepsZ L))).length = encV (widthN (offZ L) : Int) ++ packL (offZ L) (widthN (offZ L)) := enc_drop _ _
    have d4 := enc_drop (widthN (offZ L) : Int) (packL (offZ L) (widthN (offZ L)))
    have ol := off_length L
    have hp := packL_length (offZ L) (widthN (offZ L))
    rw [ol] at hp
    have hun := unp_pack (L := offZ L) (W := widthN (offZ L)) width_lt
    rw [ol] at hun
    have hzero := (repack_iff (bs := packL (offZ L) (widthN (offZ L))) (W := widthN (offZ L)) (m := L.length - 1) (packL_bytes _ _) hp).1 (by rw [hun])
    rw [read_p (n := L.length) (W := widthN (offZ L)) h1 (p1 _) hlen hn (by rw [d1]; exact numP_split ha _) (p1 _) (by rw [d1, d2]; exact numP_split hb _) (p1 _) (by rw [d1, d2, d3]; exact numP_split (by unfold i64; omega) _) (p1 _) hw]
    rw [d1, d2, d3, d4, if_pos ⟨hp, hzero⟩, hun]
    congr 1
    rw [hL]; exact walk_off (by rw [← hL]; exact hl)
theorem read_ints {bs l : List Int} (h : readZ bs = some l) : ints l ∧ l.length ≤ 65536 := by
  unfold readZ at h
  split at h
  · cases h
  · split at h
    · cases h; exact ⟨fun x hx => (by cases hx), by simp⟩
    · simp only at h
      split at h
      · cases h
      · split at h
        · cases h
        · split at h
          · cases h
          · split at h
            · simp only [Option.some.injEq] at h
              subst h
              refine ⟨walk_ints _ _ _ (by have := numP_len (bs := bs.drop (numP bs).2) (v := (numP (bs.drop (numP bs).2)).1) (l := (numP (bs.drop (numP bs).2)).2) rfl; unfold i64; exact ⟨this.2.2.1, this.2.2.2⟩), ?_⟩
              rw [walk_length, unp_length]; omega
            · cases h
/-- The list that has just these bytes. -/
def decZ (bs : List Int) : Option (List Int) := match readZ bs with | none => none | some l => if encZ l = bs then some l else none
theorem dec_iff {bs l : List Int} : decZ bs = some l ↔ (ints l ∧ l.length ≤ 65536) ∧ encZ l = bs := by
  unfold decZ
  constructor
  · intro h
    cases hr : readZ bs with
    | none => rw [hr] at h; cases h
    | some m =>
      rw [hr] at h
      simp only at h
      split at h
      · rename_i he
        cases h
        exact ⟨read_ints hr, he⟩
      · cases h
  · rintro ⟨⟨h1, h2⟩, rfl⟩
    rw [read_enc h1 h2]; simp
theorem enc_byte {l : List Int} : bytes (encZ l) := by
  intro z hz
  rcases List.mem_append.1 hz with hz | hz
  · exact enc_bytes _ z hz
  · cases l with
    | nil => cases hz
    | cons a l =>
      simp only [bodyZ, List.mem_append] at hz
      rcases hz with hz | hz | hz | hz
      · exact enc_bytes _ z hz
      · exact enc_bytes _ z hz
      · exact enc_bytes _ z hz
      · exact packL_bytes _ _ z hz
theorem enc_inj {l m : List Int} (hl : ints l) (hn : l.length ≤ 65536) (hm : ints m) (hk : m.length ≤ 65536) (h : encZ l = encZ m) : l = m := by
  have h1 := read_enc hl hn
  rw [h, read_enc hm hk] at h1
  exact (Option.some.inj h1).symm
end Go.Proofs.Ytedldajlioeioaa
