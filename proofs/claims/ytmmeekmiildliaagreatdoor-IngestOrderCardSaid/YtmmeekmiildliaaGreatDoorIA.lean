/- Keys of rows as texts; what a map of rows by their keys is. -/
import Derived.Test.YtmmeekmiildliaaGreatDoorRB
import Derived.Lib.ItoaNum
import Derived.Lib.Join
import Derived.Maps.Views
import Derived.Maps.OwnSet
import Derived.Sort.KeysCollected
namespace Go.Proofs.YtmmeekmiildliaaGreatDoor
open Go.RowKit
set_option linter.unusedSimpArgs false
set_option linter.unusedVariables false
theorem u8_ofNat {n : Nat} (h : n < 256) : (UInt8.ofNat n).toNat = n := by simp [UInt8.toNat_ofNat']; omega
theorem dec_ge (u : Nat) : ∀ c ∈ Lib.decDigits u, 48 ≤ c.toNat := by
  induction u using Nat.strongRecOn with
  | _ u ih =>
    intro c hc
    rw [Lib.decDigits] at hc
    by_cases h : u < 10
    · rw [dif_pos h] at hc
      rw [List.mem_singleton.1 hc, u8_ofNat (by omega)]; omega
    · rw [dif_neg h] at hc
      rcases List.mem_append.1 hc with h1 | h1
      · exact ih (u / 10) (by omega) c h1
      · rw [List.mem_singleton.1 h1, u8_ofNat (by omega)]; omega
def valD (l : List UInt8) : Nat := l.foldl (fun a c => 10 * a + (c.toNat - 48)) 0
theorem valD_dec (u : Nat) : valD (Lib.decDigits u) = u := by
  induction u using Nat.strongRecOn with
  | _ u ih =>
    rw [Lib.decDigits]
    by_cases h : u < 10
    · rw [dif_pos h]; simp only [valD, List.foldl_cons, List.foldl_nil, u8_ofNat (show 48 + u < 256 by omega)]; omega
    · rw [dif_neg h]
      have := ih (u / 10) (by omega)
      unfold valD at this ⊢
      rw [List.foldl_append, this]
      simp only [List.foldl_cons, List.foldl_nil, u8_ofNat (show 48 + u % 10 < 256 by omega)]
      omega
theorem itoa_pos {t : Int} (h : 0 ≤ t) : Lib.itoa t = Lib.decDigits t.toNat := by unfold Lib.itoa; rw [if_neg (by omega)]
theorem itoa_inj {t u : Int} (ht : 0 ≤ t) (hu : 0 ≤ u) (h : Lib.itoa t = Lib.itoa u) : t = u := by
  rw [itoa_pos ht, itoa_pos hu] at h
  have := congrArg valD h
  rw [valD_dec, valD_dec] at this
  omega
theorem itoa_no10 {t : Int} (ht : 0 ≤ t) : (10 : UInt8) ∉ Lib.itoa t := by
  rw [itoa_pos ht]; intro h
  have := dec_ge _ _ h
  exact absurd this (by decide)
theorem cut10 : ∀ {x y u v : List UInt8}, (10 : UInt8) ∉ x → (10 : UInt8) ∉ y → x ++ 10 :: u = y ++ 10 :: v → x = y ∧ u = v
  | [], [], u, v, _, _, h => ⟨rfl, by simpa using h⟩
  | [], c :: y, u, v, _, hy, h => by
    simp only [List.nil_append, List.cons_append, List.cons.injEq] at h
    exact absurd (h.1 ▸ List.mem_cons_self) hy
  | c :: x, [], u, v, hx, _, h => by
    simp only [List.nil_append, List.cons_append, List.cons.injEq] at h
    exact absurd (h.1.symm ▸ List.mem_cons_self) hx
  | c :: x, d :: y, u, v, hx, hy, h => by
    simp only [List.cons_append, List.cons.injEq] at h
    obtain ⟨e1, e2⟩ := cut10 (fun k => hx (List.mem_cons_of_mem _ k)) (fun k => hy (List.mem_cons_of_mem _ k)) h.2
    exact ⟨by rw [h.1, e1], e2⟩
theorem join_two (x y : List UInt8) (r : List (List UInt8)) : Lib.join (x :: y :: r) [10] = x ++ 10 :: Lib.join (y :: r) [10] := by
  rw [Lib.join_cons, Lib.join_cons]; simp [Lib.joinTail]
theorem join_inj : ∀ (X Y : List (List UInt8)), X.length = Y.length → (∀ x ∈ X, (10 : UInt8) ∉ x) → (∀ y ∈ Y, (10 : UInt8) ∉ y) → Lib.join X [10] = Lib.join Y [10] → X = Y
  | [], [], _, _, _, _ => rfl
  | [x], [y], _, _, _, h => by rw [Lib.join_one, Lib.join_one] at h; rw [h]
  | x :: x2 :: X, y :: y2 :: Y, hl, hX, hY, h => by
    rw [join_two, join_two] at h
    obtain ⟨e1, e2⟩ := cut10 (hX x List.mem_cons_self) (hY y List.mem_cons_self) h
    rw [e1, join_inj (x2 :: X) (y2 :: Y) (by simpa using hl) (fun z hz => hX z (List.mem_cons_of_mem _ hz)) (fun z hz => hY z (List.mem_cons_of_mem _ hz)) e2]
  | [], y :: Y, hl, _, _, _ => by simp at hl
  | x :: X, [], hl, _, _, _ => by simp at hl
  | [x], y :: y2 :: Y, hl, _, _, _ => by simp at hl
  | x :: x2 :: X, [y], hl, _, _, _ => by simp at hl
/-- A row's time and values as a text. -/
def keyB (r : RV) : List UInt8 := Lib.itoa r.t ++ 10 :: Lib.join (r.dims.map (·.data.toList)) [10]
/-- A row of a schema of so many dimensions. -/
structure OkD (d : Nat) (r : RV) : Prop where
  t : 0 ≤ r.t
  len : r.dims.length = d
  vals : ∀ s ∈ r.dims, valP s
theorem val_no10 {s : ByteArray} (h : valP s) : (10 : UInt8) ∉ s.data.toList := by
  intro hm
  obtain ⟨i, hi, e⟩ := List.getElem_of_mem hm
  have hi' : i < s.size := by simpa using hi
  have hw := h.2 i hi'
  have e2 : s[i]'hi' = 10 := by rw [← e]; rfl
  rw [e2] at hw
  exact absurd hw (by decide)
theorem key_inj {d : Nat} {a b : RV} (ha : OkD d a) (hb : OkD d b) (h : keyB a = keyB b) : cmpV a b = 0 := by
  obtain ⟨e1, e2⟩ := cut10 (itoa_no10 ha.t) (itoa_no10 hb.t) h
  have e3 := join_inj _ _ (by rw [List.length_map, List.length_map, ha.len, hb.len])
    (fun x hx => by obtain ⟨s, hs, rfl⟩ := List.mem_map.1 hx; exact val_no10 (ha.vals s hs))
    (fun x hx => by obtain ⟨s, hs, rfl⟩ := List.mem_map.1 hx; exact val_no10 (hb.vals s hs)) e2
  refine cmpV_zero.2 ⟨?_, itoa_inj ha.t hb.t e1⟩
  exact List.map_inj_right (fun x y hxy => by
    cases x; cases y; simp only [ByteArray.mk.injEq] at *
    exact Array.toList_inj.1 hxy) |>.1 e3
theorem key_same {a b : RV} (h : cmpV a b = 0) : keyB a = keyB b := by
  obtain ⟨h1, h2⟩ := cmpV_zero.1 h
  unfold keyB; rw [h1, h2]
theorem key_iff {d : Nat} {a b : RV} (ha : OkD d a) (hb : OkD d b) : keyB a = keyB b ↔ cmpV a b = 0 := ⟨key_inj ha hb, key_same⟩
/-! the map -/
abbrev vz (z : RZ) : Value := .agg (encR z).toArray
def RM (v : Value) : Option (DataW Value × List MemPlace) := some (.held v, [])
/-- A map's datum is these rows by their keys. -/
structure MapIs (D : DataW Value) (Z : List RZ) : Prop where
  nd : (Z.map fun z => keyB z.2).Nodup
  at_ : ∀ z ∈ Z, ∀ zd, D.atKey (.string (keyB z.2)) zd = .held (vz z)
  has : ∀ k, Maps.has D (.string k) = true ↔ ∃ z ∈ Z, keyB z.2 = k
  size : Maps.size D = Z.length
theorem MapIs.nil : MapIs (.map []) [] := ⟨List.nodup_nil, fun z h => absurd h List.not_mem_nil, fun k => by simp [Maps.has], rfl⟩
theorem lit_ne {a b : List UInt8} (h : a ≠ b) : Lit.string a ≠ Lit.string b := fun e => h (by injection e)
theorem MapIs.put_new {D : DataW Value} {Z : List RZ} {z : RZ} (h : MapIs D Z) (ht : Maps.Tidy D) (hz : ∀ y ∈ Z, keyB y.2 ≠ keyB z.2) : MapIs (D.put (.string (keyB z.2)) (.held (vz z))) (Z ++ [z]) := by
  have hno : Maps.has D (.string (keyB z.2)) = false := by
    cases hh : Maps.has D (.string (keyB z.2)) with
    | false => rfl
    | true => obtain ⟨y, hy, e⟩ := (h.has _).1 hh; exact absurd e (hz y hy)
  refine ⟨?_, ?_, ?_, ?_⟩
  · rw [List.map_append, List.nodup_append]
    refine ⟨h.nd, by simp, fun x hx y hy e => ?_⟩
    obtain ⟨q, hq, rfl⟩ := List.mem_map.1 hx
    rw [List.map_singleton, List.mem_singleton] at hy
    exact hz q hq (e.trans hy)
  · intro y hy zd
    rcases List.mem_append.1 hy with h1 | h1
    · rw [Maps.atKey_put_other (lit_ne (hz y h1))]; exact h.at_ y h1 zd
    · rw [List.mem_singleton.1 h1]; exact Maps.atKey_put_same (k := .string (keyB z.2)) ht.isMap trivial _ _
  · intro k
    by_cases e : k = keyB z.2
    · subst e
      simp only [Maps.has_put_same ht.isMap (k := .string (keyB z.2)) trivial, true_iff]
      exact ⟨z, List.mem_append_right _ List.mem_cons_self, rfl⟩
    · rw [Maps.has_put_other (lit_ne e), h.has]
      constructor
      · rintro ⟨y, hy, e2⟩; exact ⟨y, List.mem_append_left _ hy, e2⟩
      · rintro ⟨y, hy, e2⟩
        rcases List.mem_append.1 hy with h1 | h1
        · exact ⟨y, h1, e2⟩
        · rw [List.mem_singleton.1 h1] at e2; exact absurd e2.symm e
  · rw [Maps.size_put ht, hno, h.size]; simp
theorem MapIs.put_old {D : DataW Value} {A B : List RZ} {y z : RZ} (h : MapIs D (A ++ y :: B)) (ht : Maps.Tidy D) (hk : keyB y.2 = keyB z.2) : MapIs (D.put (.string (keyB z.2)) (.held (vz z))) (A ++ z :: B) := by
  have hyes : Maps.has D (.string (keyB z.2)) = true := (h.has _).2 ⟨y, by simp, hk⟩
  have hn := h.nd
  rw [List.map_append, List.map_cons, List.nodup_append, List.nodup_cons] at hn
  obtain ⟨hA, ⟨hyB, hB⟩, hAB⟩ := hn
  have oA : ∀ q ∈ A, keyB q.2 ≠ keyB z.2 := fun q hq e => hAB _ (List.mem_map_of_mem hq) _ List.mem_cons_self (e.trans hk.symm)
  have oB : ∀ q ∈ B, keyB q.2 ≠ keyB z.2 := fun q hq e => hyB (by rw [hk, ← e]; exact List.mem_map_of_mem hq)
  refine ⟨?_, ?_, ?_, ?_⟩
  · have := h.nd
    rw [List.map_append, List.map_cons] at this ⊢
    rw [← hk]; exact this
  · intro q hq zd
    rcases List.mem_append.1 hq with h1 | h1
    · rw [Maps.atKey_put_other (lit_ne (oA q h1))]; exact h.at_ q (by simp [h1]) zd
    · rcases List.mem_cons.1 h1 with h2 | h2
      · rw [h2]; exact Maps.atKey_put_same (k := .string (keyB z.2)) ht.isMap trivial _ _
      · rw [Maps.atKey_put_other (lit_ne (oB q h2))]; exact h.at_ q (by simp [h2]) zd
  · intro k
    by_cases e : k = keyB z.2
    · subst e
      simp only [Maps.has_put_same ht.isMap (k := .string (keyB z.2)) trivial, true_iff]
      exact ⟨z, by simp, rfl⟩
    · rw [Maps.has_put_other (lit_ne e), h.has]
      constructor
      · rintro ⟨q, hq, e2⟩
        rcases List.mem_append.1 hq with h1 | h1
        · exact ⟨q, List.mem_append_left _ h1, e2⟩
        · rcases List.mem_cons.1 h1 with h2 | h2
          · rw [h2, hk] at e2; exact absurd e2.symm e
          · exact ⟨q, List.mem_append_right _ (List.mem_cons_of_mem _ h2), e2⟩
      · rintro ⟨q, hq, e2⟩
        rcases List.mem_append.1 hq with h1 | h1
        · exact ⟨q, List.mem_append_left _ h1, e2⟩
        · rcases List.mem_cons.1 h1 with h2 | h2
          · rw [h2] at e2; exact absurd e2.symm e
          · exact ⟨q, List.mem_append_right _ (List.mem_cons_of_mem _ h2), e2⟩
  · rw [Maps.size_put ht, hyes, h.size]; simp
end Go.Proofs.YtmmeekmiildliaaGreatDoor
