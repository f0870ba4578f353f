/- A block of bytes. -/
import Derived.Test.YthogafecplhckaaDoorCP
import Derived.Test.YthogafecplhckaaDoorGY
namespace Go.Proofs.YthogafecplhckaaDoor
open Go.RowKit
set_option linter.unusedSimpArgs false
set_option linter.unusedVariables false
/-- The four bytes of a sum. -/
def sumB (s : Nat) : List Int := [((s / 16777216 % 256 : Nat) : Int), ((s / 65536 % 256 : Nat) : Int), ((s / 256 % 256 : Nat) : Int), ((s / 1 % 256 : Nat) : Int)]
def sumN (bs : List Int) : Nat := 4294967295 - crcN 4294967295 bs
def headL (bs : List Int) : List Int := encV bs.length ++ bs
def blockL (bs : List Int) : List Int := headL bs ++ sumB (sumN (headL bs))
theorem enc_bd (v : Int) : 1 ≤ (encV v).length ∧ (encV v).length ≤ 10 := by rw [encV, encI_length]; exact groups_bd _
theorem enc_bytes (v : Int) : bytes (encV v) := by
  intro x hx
  obtain ⟨i, hi, rfl⟩ := List.mem_map.1 hx
  unfold byteI
  split <;> omega
theorem head_bytes {bs : List Int} (h : bytes bs) : bytes (headL bs) := by
  intro x hx
  rcases List.mem_append.1 hx with hx | hx
  · exact enc_bytes _ x hx
  · exact h x hx
theorem append_bytes {ops : Array Oper} {rest : List Oper} {o : Oper} {a : Act} {Q : Exit → Act → World → Prop} {w : World} (hgd : o.guard = none) (s x : Operand)
    (ho : o.op = .call { callee := .builtin .append, args := #[s, x], argTypes := #[25, 25] }) (B : Nat) (v : Value) (hs : a.eval s = v) (m : Nat) (M : List Int) (hown : w.ownsRow B 5 1 v m (M.map (Value.int .u8)))
    (A : Option Addr) (n c : Nat) (L : List Int) (hx : a.eval x = .slice A n c) (hA : Row w A (L.map (Value.int .u8))) (hz : n = L.length) (hnone : A = none → n = 0 ∧ c = 0) (hn : m + n ≤ 100000000) (hB : B ≤ w.heap.size)
    (h : ∀ v' w', w'.ownsRow B 5 1 v' (m + n) ((M ++ L).map (Value.int .u8)) → Below B w w' → wpList Tryd.prog ops Q rest (a.put o.dst v') w') : wpList Tryd.prog ops Q (o :: rest) a w := by
  obtain ⟨i0, hi0, hz0, hz1, hz2⟩ := info_parts Tryd.info5
  cases A with
  | none =>
    obtain ⟨rfl, rfl⟩ := hnone rfl
    have hl : L = [] := List.length_eq_zero_iff.1 hz.symm
    subst hl
    exact wpList_append_own_none hgd s x 25 ho B 5 i0 1 Tryd.underlying25 hi0 v m _ hs hown hx (h v w (by simpa using hown) (Below.refl _ _))
  | some ad =>
    have hnews : ∀ j u, (L.map (Value.int .u8))[j]? = some u → w.cell? (ad.add j) = some u := by
      intro j u hu
      rcases hA with h0 | ⟨b, off, he, hc⟩
      · rw [h0] at hu; simp at hu
      · cases he
        have hadd : (⟨b, off, none⟩ : Addr).add j = ⟨b, off + j, none⟩ := by
          unfold Addr.add; split
          · rename_i h; subst h; rfl
          · rfl
        rw [hadd]; exact hc j u hu
    refine wpList_append_own w hgd s x 25 ho B 5 i0 (.int .u8 0) 1 1 Tryd.underlying25 hi0 hz0 hz1 hz2 rfl (by decide) v m _ hs hown ad n c (L.map (Value.int .u8)) hx (by rw [List.length_map, hz, Nat.mul_one]) hnews ?_ (by unfold maxLen; omega) (by omega) hB ?_
    · intro u hu
      obtain ⟨q, _, rfl⟩ := List.mem_map.1 hu; rfl
    · intro v' w' hown' hgrow _
      refine h v' w' ?_ ((Below.refl B w).grown hgrow hB (fun k hk => (hown.lt k hk).1))
      rw [List.map_append]; exact hown'
theorem bytes_slice {B : Nat} {w : World} {v : Value} {n : Nat} {xs : List Int} (h : w.ownsRow B 5 1 v n (xs.map (Value.int .u8))) : ∃ A c, v = .slice A n c ∧ Row w A (xs.map (Value.int .u8)) ∧ n ≤ c ∧ (A = none → n = 0 ∧ c = 0) := by
  have hn : n = xs.length := by have := h.1; simpa using this.symm
  rcases h.2 with ⟨rfl, h0⟩ | ⟨g, cap, cur, rfl, _, _, hc, _⟩
  · have hz0 : xs = [] := List.length_eq_zero_iff.1 (by omega)
    exact ⟨none, 0, by rw [h0], .inl (by rw [hz0]; rfl), by omega, fun _ => ⟨h0, rfl⟩⟩
  · rcases Nat.eq_zero_or_pos n with h0 | h0
    · have hz0 : xs = [] := List.length_eq_zero_iff.1 (by omega)
      exact ⟨_, cap, rfl, .inl (by rw [hz0]; rfl), hc, fun h => by cases h⟩
    · obtain ⟨g', cap', he, _, hr⟩ := Row.of_own h h0
      cases he
      exact ⟨_, cap, rfl, hr, hc, fun h => by cases h⟩
def BlockPost (w : World) (xs : List Int) (e : Ending) (w' : World) : Prop :=
  ∃ A c, e = .returned (.tuple #[.slice A xs.length c, .int .i64 0]) ∧ Row w' A (xs.map (Value.int .u8)) ∧ xs.length ≤ c ∧ Below w.heap.size w w' ∧ w'.ownsRow w.heap.size 5 1 (.slice A xs.length c) xs.length (xs.map (Value.int .u8))
set_option maxRecDepth 100000 in
set_option maxHeartbeats 4000000 in
theorem block_any (A : Option Addr) (n c : Nat) (bs : List Int) (w : World) (hT : Tab w) (hA : Row w A (bs.map (Value.int .u8))) (hz : n = bs.length) (hn : n ≤ 16777216) (hb : bytes bs) (hnone : A = none → n = 0 ∧ c = 0) :
    Calls Tryd.prog 35 #[.slice A n c] w (BlockPost w (blockL bs)) := by
  obtain ⟨i0, hi0, hz0, hz1, hz2⟩ := info_parts Tryd.info5
  have HZ := Lib.hid hz
  have HA := Lib.hid hA
  have HT := Lib.hid hT
  have HBY := Lib.hid hb
  have HN := Lib.hid hnone
  clear hz hA hT hb hnone
  obtain ⟨E, hE⟩ : ∃ E, E = encV (n : Int) := ⟨_, rfl⟩
  have hEl : 1 ≤ E.length ∧ E.length ≤ 10 := by rw [hE]; exact enc_bd _
  obtain ⟨hE1, hE2⟩ := hEl
  have HE := Lib.hid hE
  clear hE
  go_enter Tryd.func35, Tryd.ntmps35
  go_wp2_with fail
  refine (int_any none 0 0 [] (n : Int) _ (.inl rfl) (by omega) rfl (by omega) (by omega) (by omega)).mono ?_
  rw [List.nil_append, ← HE.out]
  rintro e w1 ⟨g, cap, rfl, hcap, hown1, hB1⟩
  have HB1 := Lib.hid hB1
  have HOW1 := Lib.hid hown1
  obtain ⟨l, hl⟩ : ∃ l, l = E.length := ⟨_, rfl⟩
  rw [← hl] at hE1 hE2 hcap ⊢
  have hown2 : w1.ownsRow w.heap.size 5 1 (.slice (some ⟨g, 0, none⟩) l cap) l (E.map (Value.int .u8)) := by rw [hl]; exact hown1
  have HL := Lib.hid hl
  clear hB1 hown1 hl
  go_wp2_with (at_builtin; refine append_bytes rfl _ _ rfl w.heap.size (.slice (some ⟨g, 0, none⟩) l cap) rfl l E hown2 A n c bs rfl (HA.out.keep (Nat.le_refl _) HB1.out) HZ.out HN.out (by omega) HB1.out.size ?_)
  intro v2 w2 hown3 hB2
  rw [← List.map_append] at hown3
  obtain ⟨A2, c2, rfl, hr2, hc2, hn2⟩ := bytes_slice hown3
  obtain ⟨body, hbody⟩ : ∃ body, body = E ++ bs := ⟨_, rfl⟩
  rw [← hbody] at hown3 hr2
  obtain ⟨m, hm⟩ : ∃ m, m = l + n := ⟨_, rfl⟩
  rw [← hm] at hown3 hc2 hn2 ⊢
  have HM := Lib.hid (show m = body.length by rw [hm, hbody, List.length_append, ← HL.out, ← HZ.out])
  have hm9 : m ≤ 16777226 := by omega
  have HBODY := Lib.hid (show body = headL bs by rw [hbody, HE.out, HZ.out]; rfl)
  have HOW2 := Lib.hid hown3
  have HR2 := Lib.hid hr2
  have HB2 := Lib.hid (HB1.out.trans hB2)
  clear hbody hm hown3 hr2 hB2 hown2 HOW1
  go_wp2_with fail
  refine (sum_any A2 m c2 body _ (HT.out.keep HB2.out) HR2.out HM.out (by omega) (by rw [HBODY.out]; exact head_bytes HBY.out)).mono ?_
  rintro e w3 ⟨rfl, rfl⟩
  obtain ⟨s, hs⟩ : ∃ s, s = sumN body := ⟨_, rfl⟩
  rw [show sumI body = (s : Int) by rw [hs]; rfl]
  have hs9 : s < 4294967296 := by rw [hs]; unfold sumN; omega
  have HS := Lib.hid hs
  clear hs
  go_wp2_with fail
  go_loopw [4, 17] (fun v i wr => ∃ k : Nat, k ≤ 4 ∧ i = .int .i64 k ∧ Hid (wr.ownsRow w.heap.size 5 1 v (m + k) ((body ++ (sumB s).take k).map (Value.int .u8))) ∧ Hid (Below w.heap.size w wr)) (fun _ i _ => 4 - (intOf i).toNat)
  case atStart => exact ⟨0, by omega, rfl, Lib.hid (by simpa using HOW2.out), HB2⟩
  case round =>
    clear HOW2 HR2 HB2
    obtain ⟨k, hk, rfl, HO, HB⟩ := hrel
    rcases (show k = 0 ∨ k = 1 ∨ k = 2 ∨ k = 3 ∨ k = 4 by omega) with rfl | rfl | rfl | rfl | rfl
    · obtain ⟨y, hy⟩ : ∃ y : Nat, y = s / 16777216 % 256 := ⟨_, rfl⟩
      have hy9 : y < 256 := by omega
      have e1 : (s : Int) / 16777216 = (y : Int) := by omega
      have HTK := Lib.hid (show (sumB s).take (0 + 1) = (sumB s).take 0 ++ [(y : Int)] by rw [hy]; rfl)
      clear hy
      have hown := HO.out
      go_wp2_with (at_builtin; refine wpList_append_own _ rfl _ _ 25 rfl w.heap.size 5 i0 (.int .u8 0) 1 1 Tryd.underlying25 hi0 hz0 hz1 hz2 rfl (by decide) _ _ _ rfl (hown.alloc _) ⟨wr.heap.size, 0, none⟩ 1 1 [.int .u8 (y : Int)] rfl rfl ?c1 ?c2 ?c3 ?c4 ?c5 ?_)
      case c1 => intro j u hj; match j, hj with | 0, hj => simp at hj; subst hj; simp [Addr.add]
      case c2 => intro u hu; simp at hu; subst hu; rfl
      case c3 => unfold maxLen; omega
      case c4 => omega
      case c5 => have := HB.out.size; simp; omega
      intro v' w3 hown' hgrow _
      have HB3 := Lib.hid (show Below w.heap.size w w3 from (bpush HB.out _).grown hgrow (by have := HB.out.size; simp; omega) (fun k hk => (hown.lt k hk).1))
      have HO3 := Lib.hid (show w3.ownsRow w.heap.size 5 1 v' (m + 0 + 1) ((body ++ (sumB s).take (0 + 1)).map (Value.int .u8)) by
        rw [HTK.out, ← List.append_assoc, List.map_append]; simpa using hown')
      clear hown' hgrow hown
      go_wp2
      go_roundw
      case rel => exact ⟨0 + 1, by omega, by first | rfl | go_num, HO3, HB3⟩
      case measure => simp [intOf]
    · obtain ⟨y, hy⟩ : ∃ y : Nat, y = s / 65536 % 256 := ⟨_, rfl⟩
      have hy9 : y < 256 := by omega
      have e1 : (s : Int) / 65536 % 256 = (y : Int) := by omega
      have HTK := Lib.hid (show (sumB s).take (1 + 1) = (sumB s).take 1 ++ [(y : Int)] by rw [hy]; rfl)
      clear hy
      have hown := HO.out
      go_wp2_with (at_builtin; refine wpList_append_own _ rfl _ _ 25 rfl w.heap.size 5 i0 (.int .u8 0) 1 1 Tryd.underlying25 hi0 hz0 hz1 hz2 rfl (by decide) _ _ _ rfl (hown.alloc _) ⟨wr.heap.size, 0, none⟩ 1 1 [.int .u8 (y : Int)] rfl rfl ?c1 ?c2 ?c3 ?c4 ?c5 ?_)
      case c1 => intro j u hj; match j, hj with | 0, hj => simp at hj; subst hj; simp [Addr.add]
      case c2 => intro u hu; simp at hu; subst hu; rfl
      case c3 => unfold maxLen; omega
      case c4 => omega
      case c5 => have := HB.out.size; simp; omega
      intro v' w3 hown' hgrow _
      have HB3 := Lib.hid (show Below w.heap.size w w3 from (bpush HB.out _).grown hgrow (by have := HB.out.size; simp; omega) (fun k hk => (hown.lt k hk).1))
      have HO3 := Lib.hid (show w3.ownsRow w.heap.size 5 1 v' (m + 1 + 1) ((body ++ (sumB s).take (1 + 1)).map (Value.int .u8)) by
        rw [HTK.out, ← List.append_assoc, List.map_append]; simpa using hown')
      clear hown' hgrow hown
      go_wp2
      go_roundw
      case rel => exact ⟨1 + 1, by omega, by first | rfl | go_num, HO3, HB3⟩
      case measure => simp [intOf]
    · obtain ⟨y, hy⟩ : ∃ y : Nat, y = s / 256 % 256 := ⟨_, rfl⟩
      have hy9 : y < 256 := by omega
      have e1 : (s : Int) / 256 % 256 = (y : Int) := by omega
      have HTK := Lib.hid (show (sumB s).take (2 + 1) = (sumB s).take 2 ++ [(y : Int)] by rw [hy]; rfl)
      clear hy
      have hown := HO.out
      go_wp2_with (at_builtin; refine wpList_append_own _ rfl _ _ 25 rfl w.heap.size 5 i0 (.int .u8 0) 1 1 Tryd.underlying25 hi0 hz0 hz1 hz2 rfl (by decide) _ _ _ rfl (hown.alloc _) ⟨wr.heap.size, 0, none⟩ 1 1 [.int .u8 (y : Int)] rfl rfl ?c1 ?c2 ?c3 ?c4 ?c5 ?_)
      case c1 => intro j u hj; match j, hj with | 0, hj => simp at hj; subst hj; simp [Addr.add]
      case c2 => intro u hu; simp at hu; subst hu; rfl
      case c3 => unfold maxLen; omega
      case c4 => omega
      case c5 => have := HB.out.size; simp; omega
      intro v' w3 hown' hgrow _
      have HB3 := Lib.hid (show Below w.heap.size w w3 from (bpush HB.out _).grown hgrow (by have := HB.out.size; simp; omega) (fun k hk => (hown.lt k hk).1))
      have HO3 := Lib.hid (show w3.ownsRow w.heap.size 5 1 v' (m + 2 + 1) ((body ++ (sumB s).take (2 + 1)).map (Value.int .u8)) by
        rw [HTK.out, ← List.append_assoc, List.map_append]; simpa using hown')
      clear hown' hgrow hown
      go_wp2
      go_roundw
      case rel => exact ⟨2 + 1, by omega, by first | rfl | go_num, HO3, HB3⟩
      case measure => simp [intOf]
    · obtain ⟨y, hy⟩ : ∃ y : Nat, y = s / 1 % 256 := ⟨_, rfl⟩
      have hy9 : y < 256 := by omega
      have e1 : (s : Int) % 256 = (y : Int) := by omega
      have HTK := Lib.hid (show (sumB s).take (3 + 1) = (sumB s).take 3 ++ [(y : Int)] by rw [hy]; rfl)
      clear hy
      have hown := HO.out
      go_wp2_with (at_builtin; refine wpList_append_own _ rfl _ _ 25 rfl w.heap.size 5 i0 (.int .u8 0) 1 1 Tryd.underlying25 hi0 hz0 hz1 hz2 rfl (by decide) _ _ _ rfl (hown.alloc _) ⟨wr.heap.size, 0, none⟩ 1 1 [.int .u8 (y : Int)] rfl rfl ?c1 ?c2 ?c3 ?c4 ?c5 ?_)
      case c1 => intro j u hj; match j, hj with | 0, hj => simp at hj; subst hj; simp [Addr.add]
      case c2 => intro u hu; simp at hu; subst hu; rfl
      case c3 => unfold maxLen; omega
      case c4 => omega
      case c5 => have := HB.out.size; simp; omega
      intro v' w3 hown' hgrow _
      have HB3 := Lib.hid (show Below w.heap.size w w3 from (bpush HB.out _).grown hgrow (by have := HB.out.size; simp; omega) (fun k hk => (hown.lt k hk).1))
      have HO3 := Lib.hid (show w3.ownsRow w.heap.size 5 1 v' (m + 3 + 1) ((body ++ (sumB s).take (3 + 1)).map (Value.int .u8)) by
        rw [HTK.out, ← List.append_assoc, List.map_append]; simpa using hown')
      clear hown' hgrow hown
      go_wp2
      go_roundw
      case rel => exact ⟨3 + 1, by omega, by first | rfl | go_num, HO3, HB3⟩
      case measure => simp [intOf]
    · obtain ⟨A5, c5, rfl, hr5, hc5, hn5⟩ := bytes_slice HO.out
      have HR5 := Lib.hid hr5
      have HXX := Lib.hid (show body ++ (sumB s).take 4 = blockL bs by rw [HS.out, HBODY.out]; rfl)
      have HLL := Lib.hid (show m + 4 = (blockL bs).length by rw [← HXX.out, List.length_append, ← HM.out]; rfl)
      clear hr5 hn5
      go_wp2_with fail
      go_ret2
      refine ⟨A5, c5, by rw [← HLL.out]; rfl, by have h := HR5.out; rw [HXX.out] at h; exact h, by rw [← HLL.out]; exact hc5, HB.out, ?_⟩
      rw [← HLL.out, ← HXX.out]; exact HO.out
end Go.Proofs.YthogafecplhckaaDoor
