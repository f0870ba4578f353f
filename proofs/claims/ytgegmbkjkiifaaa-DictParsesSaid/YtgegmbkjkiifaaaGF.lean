import Derived.Test.YtgegmbkjkiifaaaGE
import Derived.Test.YtgegmbkjkiifaaaGS
namespace Go.Proofs.Ytgegmbkjkiifaaa
open Go.RowKit
set_option linter.unusedSimpArgs false
theorem bitLenAux_le (f : Nat) : ∀ x, Lib.bitLenAux f x ≤ f := by
  induction f with
  | zero => intro x; simp [Lib.bitLenAux]
  | succ f ih => intro x; rw [Lib.bitLenAux]; split; omega; have := ih (x / 2); omega
theorem bitLenAux_lt (f : Nat) : ∀ x, x < 2 ^ f → x < 2 ^ Lib.bitLenAux f x := by
  induction f with
  | zero => intro x h; simpa [Lib.bitLenAux] using h
  | succ f ih =>
    intro x h
    rw [Lib.bitLenAux]
    split
    · rename_i h0; subst h0; simp
    · rw [Nat.pow_succ] at h
      have := ih (x / 2) (by omega)
      rw [Nat.add_comm, Nat.pow_succ]; omega
theorem bitLenAux_ge (f : Nat) : ∀ x, x ≠ 0 → 0 < f → 2 ^ (Lib.bitLenAux f x - 1) ≤ x := by
  induction f with
  | zero => intro x h h0; omega
  | succ f ih =>
    intro x h _
    rw [Lib.bitLenAux, if_neg h]
    by_cases h1 : x / 2 = 0
    · cases f with
      | zero => simp [Lib.bitLenAux]; omega
      | succ f => rw [Lib.bitLenAux, if_pos h1]; simp; omega
    · cases f with
      | zero => simp [Lib.bitLenAux]; omega
      | succ f =>
        have h2 := ih (x / 2) h1 (by omega)
        have h3 : 1 ≤ Lib.bitLenAux (f + 1) (x / 2) := by rw [Lib.bitLenAux, if_neg h1]; omega
        generalize Lib.bitLenAux (f + 1) (x / 2) = m at *
        obtain ⟨m, rfl⟩ : ∃ k, m = k + 1 := ⟨m - 1, by omega⟩
        simp only [Nat.add_sub_cancel] at h2
        rw [show 1 + (m + 1) - 1 = m + 1 from by omega, Nat.pow_succ]; omega
/-- How many bytes a folded number has. -/
def groupsZ (u : Nat) : Nat := max 1 ((Lib.bitLen u + 6) / 7)
/-- Its bytes, from the first on. -/
def byteI (u G i : Nat) : Int := (((u / 2 ^ (7 * (G - 1 - i))) % 128 + if i + 1 < G then 128 else 0 : Nat) : Int)
def encI (u : Nat) : List Int := (List.range (groupsZ u)).map (byteI u (groupsZ u))
theorem Try.info5 : (Try.prog.info? 5).map (fun i => (i.zero, i.size, i.bytes)) = some (some (.int .u8 0), 1, 1) := by kernel_rfl
theorem Row.adds {w : World} {A : Option Addr} {xs : List Value} (h : Row w A xs) : ∀ b, A = some b → ∀ j u, xs[j]? = some u → w.cell? (b.add j) = some u := by
  intro b hb j u hu
  rcases h with rfl | ⟨b', off, rfl, hc⟩
  · simp at hu
  · cases hb
    have := hc j u hu
    unfold Addr.add
    split
    · rename_i h0; subst h0; exact this
    · exact this
theorem owns_lower {w : World} {base base' : Nat} {e : TypeId} {size : Nat} {v : Value} {n : Nat} {xs : List Value} (h : w.ownsRow base e size v n xs) (hb : base' ≤ base) : w.ownsRow base' e size v n xs := by
  rcases h.2 with h0 | ⟨g, cap, cur, h1, h2, h3⟩
  · exact ⟨h.1, .inl h0⟩
  · exact ⟨h.1, .inr ⟨g, cap, cur, h1, by omega, h3⟩⟩
theorem byte_and (u m : Nat) : bits .and .u8 ((u : Int) / 2 ^ (7 * m) % 256) 127 = ((u / 2 ^ (7 * m) % 128 : Nat) : Int) := by
  have e : ((u : Int) / 2 ^ (7 * m) % 256) = ((u / 2 ^ (7 * m) % 256 : Nat) : Int) := by
    rw [Int.natCast_emod, Int.natCast_ediv, Int.natCast_pow]; rfl
  rw [e, show (127 : Int) = ((127 : Nat) : Int) from rfl, u8_and_nat _ _ (by omega) (by omega), nat_mask7]
  omega
theorem byte_or (y : Nat) (h : y < 128) : bits .or .u8 (y : Int) 128 = (y : Int) + 128 := by
  rw [show (128 : Int) = ((128 : Nat) : Int) from rfl, u8_or_nat _ _ (by omega) (by omega), Nat.or_comm, nat_join 7 _ _ (by decide) (by omega)]
  omega
theorem byteI_more {u G k : Nat} (h : k + 1 < G) : byteI u G k = ((u / 2 ^ (7 * (G - 1 - k)) % 128 : Nat) : Int) + 128 := by unfold byteI; rw [if_pos h]; rfl
theorem byteI_last {u G k : Nat} (h : ¬ k + 1 < G) : byteI u G k = ((u / 2 ^ (7 * (G - 1 - k)) % 128 : Nat) : Int) := by unfold byteI; rw [if_neg h]; rfl
/-- The bytes of a number. -/
def encV (v : Int) : List Int := encI (foldZ v).toNat
/-- What a call that answers a new list of bytes answers. -/
def MadeB (w : World) (xs : List Int) (e : Ending) (w' : World) : Prop :=
  ∃ g cap, e = .returned (.slice (some ⟨g, 0, none⟩) xs.length cap) ∧ xs.length ≤ cap ∧ w'.ownsRow w.heap.size 5 1 (.slice (some ⟨g, 0, none⟩) xs.length cap) xs.length (xs.map (Value.int .u8)) ∧ Below w.heap.size w w'
theorem encI_length (u : Nat) : (encI u).length = groupsZ u := by simp [encI]
theorem groups_bd (u : Nat) : 1 ≤ groupsZ u ∧ groupsZ u ≤ 10 := by
  have := bitLenAux_le 64 u
  unfold groupsZ Lib.bitLen; omega
theorem MadeB.of {w w' : World} {v : Value} {n : Nat} {xs : List Int} (hB : Below w.heap.size w w') (h : w'.ownsRow w.heap.size 5 1 v n (xs.map (Value.int .u8))) (hn : 0 < n) : MadeB w xs (.returned v) w' := by
  have hl : n = xs.length := by have := h.1; simpa using this.symm
  subst hl
  obtain ⟨g, cap, rfl, hc, _⟩ := Row.of_own h hn
  exact ⟨g, cap, rfl, hc, h, hB⟩
set_option maxRecDepth 100000 in
set_option maxHeartbeats 2000000 in
theorem int_any (A : Option Addr) (n c : Nat) (bs : List Int) (v : Int) (w : World) (hA : Row w A (bs.map (Value.int .u8))) (hn : n ≤ 1000000) (hz : n = bs.length) (hnc : n ≤ c) (v1 : -9223372036854775808 ≤ v) (v2 : v ≤ 9223372036854775807) :
    Calls Try.prog 33 #[.slice A n c, .int .i64 v] w (MadeB w (bs ++ encV v)) := by
  have HZ := Lib.hid hz
  clear hz
  obtain ⟨u, hu⟩ : ∃ u : Nat, foldZ v = u := ⟨(foldZ v).toNat, by have := fold_bd v1 v2; omega⟩
  have hu1 : (u : Int) ≤ 18446744073709551615 := by rw [← hu]; exact (fold_bd v1 v2).2
  have HU := Lib.hid hu
  clear hu
  go_enter Try.func33, Try.ntmps33
  go_wp2_with fail
  refine (fold_any _ _ v1 v2).mono ?_
  rintro e w1 ⟨rfl, rfl⟩
  rw [HU.out]
  go_wp2_with fail
  refine (Try.bits_Len64 _ _ (by omega) (by omega)).mono ?_
  rintro e w1 ⟨rfl, rfl⟩
  rw [Int.toNat_natCast]
  obtain ⟨L, hL⟩ : ∃ L, L = Lib.bitLen u := ⟨_, rfl⟩
  have hL64 : L ≤ 64 := by rw [hL]; exact bitLenAux_le 64 u
  obtain ⟨G, hG⟩ : ∃ G, G = groupsZ u := ⟨_, rfl⟩
  have hGL : (max 1 (((L : Int) + 7 - 1) / 7)) = (G : Int) := by rw [hG, groupsZ, ← hL]; omega
  have hG10 : 1 ≤ G ∧ G ≤ 10 := by rw [hG, groupsZ, ← hL]; omega
  obtain ⟨hG1, hG2⟩ := hG10
  rw [← hL]
  have HG := Lib.hid hG
  have HL := Lib.hid hL
  have HGL := Lib.hid hGL
  clear hG hL hGL
  go_wp2_with fail
  rw [HGL.out]
  clear HGL HL hL64
  obtain ⟨i0, hi0, hz0, hz1, hz2⟩ := info_parts Try.info5
  go_loopw [0, 7, 8, 9, 25] (fun v _ _ _ i wr => ∃ k : Nat, k ≤ G ∧ i = .int .i64 k ∧ Below w1.heap.size w1 wr ∧ ((k = 0 ∧ v = .slice A n n) ∨ (0 < k ∧ wr.ownsRow w1.heap.size 5 1 v (n + k) ((bs ++ (List.range k).map (byteI u G)).map (Value.int .u8)))))
    (fun _ _ _ _ i _ => G - (intOf i).toNat)
  case atStart => exact ⟨0, Nat.zero_le _, rfl, Below.refl _ _, .inl ⟨rfl, rfl⟩⟩
  case round =>
    obtain ⟨k, hk, rfl, hB, hv⟩ := hrel
    by_cases hlt : k < G
    · rcases hv with ⟨rfl, rfl⟩ | ⟨hk0, hown⟩
      · have ha := byte_and u (G - 1)
        obtain ⟨y, hy⟩ : ∃ y, y = u / 2 ^ (7 * (G - 1)) % 128 := ⟨_, rfl⟩
        rw [← hy] at ha
        have hyl : y < 128 := by omega
        have ho := byte_or y hyl
        by_cases hmore : 0 + 1 < G
        · have HBY := Lib.hid (show byteI u G 0 = (y : Int) + 128 by rw [byteI_more hmore, hy]; rfl)
          clear hy
          have hG1' : (1 : Int) < (G : Int) := by omega
          next =>
            go_wp2_with (at_builtin; refine wpList_append_grows _ rfl _ _ 40 rfl 5 i0 (.int .u8 0) 1 1 Try.underlying40 hi0 hz0 hz1 hz2 rfl (by decide) A n n (bs.map (Value.int .u8)) rfl ?a1 ?a2 ?a3 ⟨wr.heap.size, 0, none⟩ 1 1 [.int .u8 ((y : Int) + 128)] rfl rfl ?a4 ?a5 ?a6 ?a7 ?a8 ?_)
            case a1 => intro h; rcases hA with hA | ⟨b, off, hA, _⟩; (simp at hA; subst hA; have := HZ.out; simp at this; omega); (rw [h] at hA; cases hA)
            case a2 => have := HZ.out; simp; omega
            case a3 => exact ((hA.keep (Nat.le_refl _) hB).keep (Nat.le_refl _) (bpush (Below.refl _ _) _)).adds
            case a4 => intro j u hj; match j, hj with | 0, hj => simp at hj; subst hj; simp [Addr.add]
            case a5 => intro u hu; simp at hu; subst hu; rfl
            case a6 => omega
            case a7 => unfold maxLen; omega
            case a8 => omega
            intro v' w2 hown' hgrow
            have hB' : Below w1.heap.size w1 w2 := (bpush hB _).grown hgrow (by have := hB.size; simp; omega) (fun k hk => by cases hk)
            have hown2 := owns_lower (base' := w1.heap.size) hown' (by have := hB.size; simp; omega)
            clear hown' hgrow hB
            go_wp2
            go_roundw
            case rel => exact ⟨0 + 1, by omega, by go_num, hB', .inr ⟨by omega, by simpa [HBY.out] using hown2⟩⟩
            case measure => first | (simp [intOf]; done) | (simp [intOf]; omega)
        · have HBY := Lib.hid (show byteI u G 0 = (y : Int) by rw [byteI_last hmore, hy]; rfl)
          clear hy
          have hG1' : (G : Int) ≤ 1 := by omega
          next =>
            go_wp2_with (at_builtin; refine wpList_append_grows _ rfl _ _ 40 rfl 5 i0 (.int .u8 0) 1 1 Try.underlying40 hi0 hz0 hz1 hz2 rfl (by decide) A n n (bs.map (Value.int .u8)) rfl ?b1 ?b2 ?b3 ⟨wr.heap.size, 0, none⟩ 1 1 [.int .u8 (y : Int)] rfl rfl ?b4 ?b5 ?b6 ?b7 ?b8 ?_)
            case b1 => intro h; rcases hA with hA | ⟨b, off, hA, _⟩; (simp at hA; subst hA; have := HZ.out; simp at this; omega); (rw [h] at hA; cases hA)
            case b2 => have := HZ.out; simp; omega
            case b3 => exact ((hA.keep (Nat.le_refl _) hB).keep (Nat.le_refl _) (bpush (Below.refl _ _) _)).adds
            case b4 => intro j u hj; match j, hj with | 0, hj => simp at hj; subst hj; simp [Addr.add]
            case b5 => intro u hu; simp at hu; subst hu; rfl
            case b6 => omega
            case b7 => unfold maxLen; omega
            case b8 => omega
            intro v' w2 hown' hgrow
            have hB' : Below w1.heap.size w1 w2 := (bpush hB _).grown hgrow (by have := hB.size; simp; omega) (fun k hk => by cases hk)
            have hown2 := owns_lower (base' := w1.heap.size) hown' (by have := hB.size; simp; omega)
            clear hown' hgrow hB
            go_wp2
            go_roundw
            case rel => exact ⟨0 + 1, by omega, by go_num, hB', .inr ⟨by omega, by simpa [HBY.out] using hown2⟩⟩
            case measure => first | (simp [intOf]; done) | (simp [intOf]; omega)
      · have ha := byte_and u (G - 1 - k)
        obtain ⟨y, hy⟩ : ∃ y, y = u / 2 ^ (7 * (G - 1 - k)) % 128 := ⟨_, rfl⟩
        rw [← hy] at ha
        have hyl : y < 128 := by omega
        have ho := byte_or y hyl
        by_cases hmore : k + 1 < G
        · have HBY := Lib.hid (show byteI u G k = (y : Int) + 128 by rw [byteI_more hmore, hy])
          clear hy
          next =>
            go_wp2_with (at_builtin; refine wpList_append_own _ rfl _ _ 40 rfl w1.heap.size 5 i0 (.int .u8 0) 1 1 Try.underlying40 hi0 hz0 hz1 hz2 rfl (by decide) _ _ _ rfl (hown.alloc _) ⟨wr.heap.size, 0, none⟩ 1 1 [.int .u8 ((y : Int) + 128)] rfl rfl ?c1 ?c2 ?c3 ?c4 ?c5 ?_)
            case c1 => intro j u hj; match j, hj with | 0, hj => simp at hj; subst hj; simp [Addr.add]
            case c2 => intro u hu; simp at hu; subst hu; rfl
            case c3 => unfold maxLen; omega
            case c4 => omega
            case c5 => have := hB.size; simp; omega
            intro v' w2 hown' hgrow _
            have hB' : Below w1.heap.size w1 w2 := (bpush hB _).grown hgrow (by have := hB.size; simp; omega) (fun k hk => (hown.lt k hk).1)
            have hown2 : w2.ownsRow w1.heap.size 5 1 v' (n + (k + 1)) ((bs ++ (List.range (k + 1)).map (byteI u G)).map (Value.int .u8)) := by
              rw [List.range_succ, ← Nat.add_assoc]; simpa [HBY.out] using hown'
            clear hown' hgrow hB hown
            go_wp2
            go_roundw
            case rel => exact ⟨k + 1, by omega, by go_num, hB', .inr ⟨by omega, hown2⟩⟩
            case measure => first | (simp [intOf]; done) | (simp [intOf]; omega)
        · have HBY := Lib.hid (show byteI u G k = (y : Int) by rw [byteI_last hmore, hy])
          clear hy
          next =>
            go_wp2_with (at_builtin; refine wpList_append_own _ rfl _ _ 40 rfl w1.heap.size 5 i0 (.int .u8 0) 1 1 Try.underlying40 hi0 hz0 hz1 hz2 rfl (by decide) _ _ _ rfl (hown.alloc _) ⟨wr.heap.size, 0, none⟩ 1 1 [.int .u8 (y : Int)] rfl rfl ?d1 ?d2 ?d3 ?d4 ?d5 ?_)
            case d1 => intro j u hj; match j, hj with | 0, hj => simp at hj; subst hj; simp [Addr.add]
            case d2 => intro u hu; simp at hu; subst hu; rfl
            case d3 => unfold maxLen; omega
            case d4 => omega
            case d5 => have := hB.size; simp; omega
            intro v' w2 hown' hgrow _
            have hB' : Below w1.heap.size w1 w2 := (bpush hB _).grown hgrow (by have := hB.size; simp; omega) (fun k hk => (hown.lt k hk).1)
            have hown2 : w2.ownsRow w1.heap.size 5 1 v' (n + (k + 1)) ((bs ++ (List.range (k + 1)).map (byteI u G)).map (Value.int .u8)) := by
              rw [List.range_succ, ← Nat.add_assoc]; simpa [HBY.out] using hown'
            clear hown' hgrow hB hown
            go_wp2
            go_roundw
            case rel => exact ⟨k + 1, by omega, by go_num, hB', .inr ⟨by omega, hown2⟩⟩
            case measure => first | (simp [intOf]; done) | (simp [intOf]; omega)
    · rcases hv with ⟨rfl, rfl⟩ | ⟨hk0, hown⟩
      · omega
      · have hkG : k = G := by omega
        subst hkG
        have hu' : encV v = (List.range k).map (byteI u k) := by
          unfold encV; rw [HU.out, Int.toNat_natCast]; unfold encI; rw [← HG.out]
        have Hu' := Lib.hid hu'
        clear hu'
        go_wp2
        go_ret
        exact MadeB.of hB (by rw [Hu'.out]; exact hown) (by omega)
end Go.Proofs.Ytgegmbkjkiifaaa
