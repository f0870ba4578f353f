/- Read (11). -/
import Derived.Test.YthogafecplhckaaDoorNG
import Derived.Test.YthogafecplhckaaDoorCEH
import Derived.Laws.AppendOwn
namespace Go.Proofs.YthogafecplhckaaDoor
open Go.RowKit
set_option linter.unusedSimpArgs false
set_option linter.unusedVariables false
/-- No entry begins what is left. -/
def JStop (L M : List ByteArray) (bs : List Int) : Prop := ∀ xs l, firstZ bs = some (xs, l) → ∀ z, rightJ L M z → encJ z ≠ xs
/-- Bytes begin with the blocks of these entries. -/
def JPre (L M : List ByteArray) : List EZ → Nat → List Int → Prop
  | [], k, _ => k = 0
  | z :: Z, k, bs => ∃ l k', firstZ bs = some (encJ z, l) ∧ rightJ L M z ∧ k = l + k' ∧ JPre L M Z k' (bs.drop l)
theorem JPre.snoc {L M : List ByteArray} : ∀ {Z : List EZ} {k : Nat} {bs : List Int} {z : EZ} {l : Nat}, JPre L M Z k bs → firstZ (bs.drop k) = some (encJ z, l) → rightJ L M z → JPre L M (Z ++ [z]) (k + l) bs := by
  intro Z
  induction Z with
  | nil =>
    intro k bs z l h h1 h2
    obtain rfl : k = 0 := h
    exact ⟨l, 0, by simpa using h1, h2, by omega, rfl⟩
  | cons y Z ih =>
    intro k bs z l h h1 h2
    obtain ⟨l1, k1, h3, h4, h5, h6⟩ := h
    exact ⟨l1, k1 + l, h3, h4, by omega, ih h6 (by rw [List.drop_drop, ← h5]; exact h1) h2⟩
def JRun (L M : List ByteArray) (Z : List EZ) (k : Nat) (bs : List Int) : Prop := JPre L M Z k bs ∧ JStop L M (bs.drop k)
/-- Two lists of entries are one. -/
def SameL : List EZ → List EZ → Prop
  | [], [] => True
  | a :: A, b :: B => SameJ a b ∧ SameL A B
  | _, _ => False
theorem SameL.refl : ∀ A : List EZ, SameL A A
  | [] => trivial
  | a :: A => ⟨SameJ.refl a, SameL.refl A⟩
theorem SameL.symm : ∀ {A B : List EZ}, SameL A B → SameL B A
  | [], [], _ => trivial
  | a :: A, b :: B, h => ⟨h.1.symm, SameL.symm h.2⟩
theorem SameL.trans : ∀ {A B C : List EZ}, SameL A B → SameL B C → SameL A C
  | [], [], [], _, _ => trivial
  | a :: A, b :: B, c :: C, h, k => ⟨h.1.trans k.1, SameL.trans h.2 k.2⟩
theorem SameL.len : ∀ {A B : List EZ}, SameL A B → A.length = B.length
  | [], [], _ => rfl
  | a :: A, b :: B, h => by simp [SameL.len h.2]
theorem SameL.get : ∀ {A B : List EZ}, SameL A B → ∀ (k : Nat) (h1 : k < A.length) (h2 : k < B.length), SameJ A[k] B[k]
  | a :: A, b :: B, h, 0, _, _ => h.1
  | a :: A, b :: B, h, k + 1, h1, h2 => SameL.get h.2 k (by simpa using h1) (by simpa using h2)
theorem SameL.of : ∀ {A B : List EZ}, A.length = B.length → (∀ (k : Nat) (h1 : k < A.length) (h2 : k < B.length), SameJ A[k] B[k]) → SameL A B
  | [], [], _, _ => trivial
  | a :: A, b :: B, h, hk => ⟨hk 0 (by simp) (by simp), SameL.of (by simpa using h) fun k h1 h2 => hk (k + 1) (by simpa using h1) (by simpa using h2)⟩
theorem JRun.one {L M : List ByteArray} : ∀ {Z Y : List EZ} {k m : Nat} {bs : List Int}, JRun L M Z k bs → JRun L M Y m bs → SameL Z Y ∧ k = m := by
  intro Z
  induction Z with
  | nil =>
    intro Y k m bs h k2
    obtain ⟨h1, h2⟩ := h
    obtain rfl : k = 0 := h1
    cases Y with
    | nil => obtain ⟨h3, _⟩ := k2; exact ⟨trivial, h3.symm⟩
    | cons y Y =>
      obtain ⟨⟨l, k', h3, h4, _⟩, _⟩ := k2
      exact absurd rfl (h2 (encJ y) l (by simpa using h3) y h4)
  | cons z Z ih =>
    intro Y k m bs h k2
    obtain ⟨⟨l, k', h3, h4, h5, h6⟩, h7⟩ := h
    cases Y with
    | nil =>
      obtain ⟨h8, h9⟩ := k2
      obtain rfl : m = 0 := h8
      exact absurd rfl (h9 (encJ z) l (by simpa using h3) z h4)
    | cons y Y =>
      obtain ⟨⟨l2, k3, g3, g4, g5, g6⟩, g7⟩ := k2
      rw [h3] at g3
      simp only [Option.some.injEq, Prod.mk.injEq] at g3
      obtain ⟨e1, rfl⟩ := g3
      have := ih ⟨h6, by rw [h5, ← List.drop_drop] at h7; exact h7⟩ ⟨g6, by rw [g5, ← List.drop_drop] at g7; exact g7⟩
      exact ⟨⟨encJ_inj h4 g4 e1, this.1⟩, by omega⟩
/-- An entry's cells. -/
def encEnt (z : EZ) : List Value := [.bool z.tick, .int .i64 z.now, .int .i64 z.ev.t, .slice z.ev.E z.ev.p z.ev.q, .slice z.ev.F z.ev.x z.ev.y]
def cellsJ (Z : List EZ) : List Value := Z.flatMap encEnt
theorem cellsJ_length : ∀ Z : List EZ, (cellsJ Z).length = Z.length * 5 := by
  intro Z
  induction Z with
  | nil => rfl
  | cons z Z ih => unfold cellsJ at ih ⊢; rw [List.flatMap_cons, List.length_append, ih]; simp [encEnt]; omega
theorem cellsJ_app (Z Y : List EZ) : cellsJ (Z ++ Y) = cellsJ Z ++ cellsJ Y := by unfold cellsJ; rw [List.flatMap_append]
theorem cellsJ_get : ∀ (Z : List EZ) (k : Nat) (h : k < Z.length) (j : Nat) (u : Value), (encEnt Z[k])[j]? = some u → (cellsJ Z)[k * 5 + j]? = some u := by
  intro Z
  induction Z with
  | nil => intro k h; simp at h
  | cons z Z ih =>
    intro k h j u hu
    cases k with
    | zero =>
      have hj : j < 5 := by
        rcases Nat.lt_or_ge j 5 with h | h
        · exact h
        · rw [List.getElem?_eq_none (by simp [encEnt]; omega)] at hu; cases hu
      unfold cellsJ
      rw [List.flatMap_cons, Nat.zero_mul, Nat.zero_add, List.getElem?_append_left (by simp [encEnt]; omega)]
      simpa using hu
    | succ k =>
      unfold cellsJ at ih ⊢
      rw [List.flatMap_cons, List.getElem?_append_right (by simp [encEnt]; omega)]
      have : (k + 1) * 5 + j - (encEnt z).length = k * 5 + j := by simp [encEnt]; omega
      rw [this]
      exact ih k (by simpa using h) j u (by simpa using hu)
theorem one_cellsJ (Z : List EZ) : ∀ u ∈ cellsJ Z, u.oneCell' = true := by
  intro u hu
  unfold cellsJ at hu
  obtain ⟨z, _, hz⟩ := List.mem_flatMap.1 hu
  simp [encEnt] at hz
  rcases hz with rfl | rfl | rfl | rfl | rfl <;> rfl
structure EntsC (w : World) (A : Option Addr) (Z : List EZ) : Prop where
  row : Row w A (cellsJ Z)
  good : ∀ z ∈ Z, EvG w z.ev
theorem EntsC.keep {w w' : World} {A : Option Addr} {Z : List EZ} {B : Nat} (h : EntsC w A Z) (hB : w.heap.size ≤ B) (hb : Below B w w') : EntsC w' A Z := ⟨h.row.keep hB hb, fun z hz => (h.good z hz).keep hB hb⟩
theorem EntsC.at {w : World} {A : Option Addr} {Z : List EZ} {k : Nat} (h : EntsC w A Z) (hk : k < Z.length) :
    ∃ b off, A = some ⟨b, off, none⟩ ∧ w.cell? ⟨b, off + k * 5, none⟩ = some (.bool Z[k].tick) ∧ w.cell? ⟨b, off + k * 5 + 1, none⟩ = some (.int .i64 Z[k].now) ∧ w.cell? ⟨b, off + k * 5 + 2, none⟩ = some (.int .i64 Z[k].ev.t) ∧
      w.cell? ⟨b, off + k * 5 + 3, none⟩ = some (.slice Z[k].ev.E Z[k].ev.p Z[k].ev.q) ∧ w.cell? ⟨b, off + k * 5 + 4, none⟩ = some (.slice Z[k].ev.F Z[k].ev.x Z[k].ev.y) := by
  rcases h.row with h0 | ⟨b, off, rfl, hc⟩
  · have := cellsJ_length Z; rw [h0] at this; simp at this; omega
  · refine ⟨b, off, rfl, ?_, ?_, ?_, ?_, ?_⟩
    · exact hc _ _ (cellsJ_get Z k hk 0 _ rfl)
    · rw [Nat.add_assoc]; exact hc _ _ (cellsJ_get Z k hk 1 _ rfl)
    · rw [Nat.add_assoc]; exact hc _ _ (cellsJ_get Z k hk 2 _ rfl)
    · rw [Nat.add_assoc]; exact hc _ _ (cellsJ_get Z k hk 3 _ rfl)
    · rw [Nat.add_assoc]; exact hc _ _ (cellsJ_get Z k hk 4 _ rfl)
theorem info46 : (Tryd.prog.info? 46).map (fun i => (i.zero, i.size, i.bytes)) = some (some (.agg #[.bool false, .int .i64 0, .int .i64 0, .slice none 0 0, .slice none 0 0]), 5, 72) := by kernel_rfl
theorem own_slice5 {B : Nat} {w : World} {e : TypeId} {v : Value} {n : Nat} {xs : List Value} (h : w.ownsRow B e 5 v n xs) : ∃ A c, v = .slice A n c ∧ Row w A xs ∧ n ≤ c ∧ (A = none → c = 0) := by
  rcases h.2 with ⟨rfl, h0⟩ | ⟨g, cap, cur, rfl, _, h2, hc, _, _, h6⟩
  · have hz0 : xs = [] := List.length_eq_zero_iff.1 (by rw [h.1, h0])
    exact ⟨none, 0, by rw [h0], .inl hz0, by omega, fun _ => rfl⟩
  · refine ⟨_, _, rfl, .inr ⟨g, 0, rfl, fun j u hu => ?_⟩, hc, fun h => by cases h⟩
    have := h.cells (g := g) rfl j u hu
    unfold Addr.add at this
    split at this
    · rename_i hj; subst hj; simpa using this
    · simpa using this
theorem slice_from (W : World) (D : Option Addr) (n c p : Nat) (hp : p ≤ n) (hnc : n ≤ c) (hn : n ≤ 1000000) :
    Sem.run Tryd.prog (Instr.slice 25 (.slice D n c) (some (.int .i64 (p : Int))) none none) W = .ok (.slice (if c = p then D else D.map (·.add p)) (n - p) (c - p)) W := by
  have e : Tryd.prog.elem 25 = 5 := by kernel_rfl
  have hs : ∀ W, Sem.run Tryd.prog (Go.sizeOf (Tryd.prog.elem 25)) W = .ok 1 W := fun _ => by kernel_rfl
  rw [run_slice_l W 25 D n c (by rw [e]; exact Tryd.underlying25) .i64 p (by omega) (by omega), hs]
  simp only [Result.andThen, sliced, Int.toNat_natCast, Nat.mul_one]
theorem firstZ_bytes {bs xs : List Int} {l p : Nat} (h : bytes bs) (k : firstZ (bs.drop p) = some (xs, l)) : bytes xs := by
  unfold firstZ at k
  split at k
  · cases k
  · simp only [Option.some.injEq, Prod.mk.injEq] at k
    rw [← k.1]
    exact fun x hx => h x (List.mem_of_mem_drop (List.mem_of_mem_drop (List.mem_of_mem_take hx)))
theorem one_encEnt (z : EZ) : ∀ u ∈ encEnt z, u.oneCell' = true := by
  intro u hu
  simp [encEnt] at hu
  rcases hu with rfl | rfl | rfl | rfl | rfl <;> rfl
theorem encEnt_cells (z : EZ) : cellsJ [z] = encEnt z := by simp [cellsJ]
theorem ent_news (w : World) (o : Obj) (z : EZ) (t : TypeId) : ∀ j u, (encEnt z)[j]? = some u → ((w.alloc o).alloc (.cells #[.bool z.tick, .int .i64 z.now, .int .i64 z.ev.t, .slice z.ev.E z.ev.p z.ev.q, .slice z.ev.F z.ev.x z.ev.y] t)).cell? ((⟨w.heap.size + 1, 0, none⟩ : Addr).add j) = some u := by
  intro j u hj
  have h1 : (⟨w.heap.size + 1, 0, none⟩ : Addr).add j = ⟨w.heap.size + 1, j, none⟩ := by
    unfold Addr.add
    split
    · rename_i h; rw [h]
    · simp
  rw [h1]
  exact cell_made (by simp) (by simpa [encEnt] using hj)
def JReadP (w : World) (L M : List ByteArray) (bs : List Int) (e : Ending) (w' : World) : Prop :=
  ∃ A c Z k, e = .returned (.tuple #[.slice A Z.length c, .int .i64 (k : Nat)]) ∧ EntsC w' A Z ∧ Z.length ≤ c ∧ (A = none → c = 0) ∧ JRun L M Z k bs ∧ k ≤ bs.length ∧ Below w.heap.size w w'
set_option maxRecDepth 100000 in
set_option maxHeartbeats 8000000 in
theorem jread_any (B a : Nat) (V : VZ) (s : ByteArray) (A0 B0 : Option Addr) (n c m d : Nat) (L M : List ByteArray) (w : World) (hT : Tab w) (h : VRep w B a V) (hs : s.size ≤ 9223372036854775807) (hn : n = L.length) (hm : m = M.length) (hn2 : n ≤ 1000) (hm2 : m ≤ 1000) (bs : List Int) (hbs : bs = (lkF V.F s).bs) (hlen : bs.length ≤ 1000000) :
    Calls Tryd.prog 11 #[.pointer (some ⟨a, 0, none⟩), .string s, .agg #[.slice A0 n c, .slice B0 m d]] w (JReadP w L M bs) := by
  obtain ⟨i0, hi0, hz0, hz1, hz2⟩ := info_parts info46
  obtain ⟨w1, hw1⟩ : ∃ w1, w1 = w.alloc (.cells #[.slice A0 n c, .slice B0 m d] 24) := ⟨_, rfl⟩
  have hb1 : Below w.heap.size w w1 := by rw [hw1]; exact bpush (Below.refl _ _) _
  have s0 : w1.cell? ⟨w.heap.size, 0, none⟩ = some (.slice A0 n c) := by rw [hw1]; exact cell_made rfl rfl
  have s1 : w1.cell? ⟨w.heap.size, 1, none⟩ = some (.slice B0 m d) := by rw [hw1]; exact cell_made rfl rfl
  have hby : bytes bs := by
    rw [hbs]
    unfold lkF
    cases hl : lookF V.F s with
    | none => intro x hx; cases hx
    | some f => exact h.byt f (look_name hl).2
  have HRD := Lib.hid (read_any B a V s w1 (h.below hb1) hs)
  have HCS := Lib.hid (fun W (hb : Below w1.heap.size w1 W) => show W.cell? ⟨w.heap.size, 0, none⟩ = some (.slice A0 n c) ∧ W.cell? ⟨w.heap.size, 1, none⟩ = some (.slice B0 m d) from ⟨cell_on hb s0, cell_on hb s1⟩)
  have HB1 := Lib.hid hb1
  have HW1 := Lib.hid hw1
  have HT := Lib.hid (hT.keep hb1)
  have HN := Lib.hid hn
  have HM := Lib.hid hm
  have HBY := Lib.hid hby
  have HBS := Lib.hid hbs
  clear hb1 hw1 hT h hn hm hby hbs s0 s1
  go_enter Tryd.func11, Tryd.ntmps11
  go_upto_region 1 with fail
  rw [← HW1.out]
  clear HW1
  go_wp2_with fail
  refine HRD.out.mono ?_
  rintro e w2 ⟨D0, nb, kb, rfl, ho2, hnb, _, hb2⟩
  rw [← HBS.out] at ho2 hnb
  obtain ⟨_, _, e1, hr2, hnk, hnil⟩ := own_slice ho2
  cases e1
  obtain ⟨is, his⟩ : ∃ is, is = (lookF V.F s).isSome := ⟨_, rfl⟩
  rw [← his]
  have HO2 := Lib.hid ho2
  have HNB := Lib.hid hnb
  have HNIL := Lib.hid hnil
  have HB2 := Lib.hid hb2
  have hnb2 : nb ≤ 1000000 := by omega
  clear his ho2 hr2 hnil hb2 hnb HRD HBS
  go_wp2_with fail
  go_loopw [10, 11] (fun v i wr => ∃ (p k : Nat) (Z : List EZ), p ≤ nb ∧ k ≤ p ∧ i = .int .i64 p ∧ Hid (k = Z.length) ∧ Hid (wr.ownsRow w1.heap.size 46 5 v k (cellsJ Z)) ∧ Hid (∀ z ∈ Z, EvO wr z.ev) ∧ Hid (wr.ownsRow w1.heap.size 5 1 (.slice D0 nb kb) nb (u8s bs)) ∧ Hid (Below w1.heap.size w1 wr) ∧ Hid (JPre L M Z p bs)) (fun _ i _ => nb - (intOf i).toNat)
  case atStart => exact ⟨0, 0, [], by omega, by omega, rfl, Lib.hid rfl, Lib.hid (World.ownsRow_nil _ _ _ _), Lib.hid (fun z hz => by cases hz), HO2, HB2, Lib.hid rfl⟩
  case round =>
    obtain ⟨p, k, Z, hp, hkp, rfl, HK, HO, HEV, HOB, HBW, HJ⟩ := hrel
    obtain ⟨A2, hA2⟩ : ∃ A2, A2 = if kb = p then D0 else D0.map (·.add p) := ⟨_, rfl⟩
    obtain ⟨_, _, e1, hrB, _, _⟩ := own_slice HOB.out
    cases e1
    have HA2 := Lib.hid (show Row wr A2 ((bs.drop p).map (Value.int .u8)) by
      rw [hA2]
      split
      · left; rw [List.drop_of_length_le (by have := HNB.out; omega)]; rfl
      · exact row_drop hrB p)
    have HN2 := Lib.hid (show A2 = none → kb - p = 0 by
      intro h
      rw [hA2] at h
      split at h
      · have := HNIL.out h; omega
      · cases D0 with
        | none => have := HNIL.out rfl; omega
        | some a => cases h)
    have HZ2 := Lib.hid (show nb - p = (bs.drop p).length by rw [List.length_drop, ← HNB.out])
    have HB2' := Lib.hid (show bytes (bs.drop p) from fun z hz => HBY.out z (List.mem_of_mem_drop hz))
    have HF := Lib.hid (first_any A2 (nb - p) (kb - p) (bs.drop p) wr (HT.out.keep HBW.out) HA2.out HZ2.out (by omega) (by omega) HB2'.out HN2.out)
    have hp0 : (0 : Int) ≤ (p : Int) := by omega
    have hsl : ∀ W, Sem.run Tryd.prog (Instr.slice 25 (.slice D0 nb kb) (some (.int .i64 (p : Int))) none none) W = .ok (.slice A2 (nb - p) (kb - p)) W := fun W => by
      rw [hA2]
      exact slice_from W D0 nb kb p hp hnk hnb2
    have FIN := Lib.hid (show JStop L M (bs.drop p) → ∀ w2 : World, Below wr.heap.size wr w2 → JReadP w L M bs (.returned (.tuple #[u10, .int .i64 (p : Int)])) w2 from by
      intro hst w2 hb2
      obtain ⟨A4, c4, he, h1, h2, h3⟩ := own_slice5 (own_below HO.out hb2)
      refine ⟨A4, c4, Z, p, by rw [he, HK.out], ⟨h1, fun z hz => EvO.evg ((HEV.out z hz).keep hb2)⟩, by rw [← HK.out]; exact h2, h3, ⟨HJ.out, hst⟩, by rw [← HNB.out]; exact hp, bthen HB1.out (bthen HBW.out hb2)⟩)
    clear hA2 hrB
    cases ho : firstZ (bs.drop p) with
    | none =>
      have HST := Lib.hid (show JStop L M (bs.drop p) from fun xs l h => by rw [ho] at h; cases h)
      rw [ho] at HF
      clear ho
      go_wp2_with fail
      refine HF.out.mono ?_
      rintro e w2 ⟨rfl, hb2⟩
      have HP := Lib.hid (FIN.out HST.out _ hb2)
      clear hb2
      go_wp2_with fail
      go_ret2
      exact HP.out
    | some q =>
      obtain ⟨xs, l⟩ := q
      have hbd := firstZ_bd ho
      rw [← HZ2.out] at hbd
      obtain ⟨hl1, hl2, hl3⟩ := hbd
      have HFZ := Lib.hid ho
      rw [ho] at HF
      clear ho
      go_wp2_with fail
      refine HF.out.mono ?_
      rintro e w2 ⟨A3, c3, rfl, ho3, hr3, hb2⟩
      obtain ⟨lx, hlx⟩ : ∃ lx, lx = xs.length := ⟨_, rfl⟩
      rw [← hlx] at ho3 hl3 ⊢
      obtain ⟨_, _, e3, _, hc3, hn3⟩ := own_slice ho3
      cases e3
      have hxb : bytes xs := firstZ_bytes (HBY.out) HFZ.out
      have HDC := Lib.hid (decode_any A0 B0 A3 n c m d lx c3 L M xs w2 hr3 hlx (by omega) hxb hn3 HN.out HM.out hn2 hm2)
      have HLX := Lib.hid hlx
      have HBW2 := Lib.hid (bthen HBW.out hb2)
      have HO2 := Lib.hid (own_below HO.out hb2)
      have HOB2 := Lib.hid (own_below HOB.out hb2)
      have HBS2 := Lib.hid hb2
      obtain ⟨q0, q1⟩ := HCS.out w2 HBW2.out
      clear ho3 hr3 hc3 hn3 hxb hlx hb2
      go_wp2_with fail
      refine HDC.out.mono ?_
      rintro e w3 (⟨z, hz1', hz2', hz3', rfl, hb3⟩ | ⟨hno, rfl, hb3⟩)
      · have HJ2 := Lib.hid (HJ.out.snoc (l := l) (by rw [HFZ.out, hz2']) hz1')
        have HEV3 := Lib.hid (show ∀ y ∈ Z ++ [z], EvO w3 y.ev from fun y hy => by
          rcases List.mem_append.1 hy with h | h
          · exact ((HEV.out y h).keep HBS2.out).keep hb3
          · rw [List.mem_singleton.1 h]; exact hz3')
        have HO3 := Lib.hid (own_below HO2.out hb3)
        have HOB3 := Lib.hid (own_below HOB2.out hb3)
        have HBW3 := Lib.hid (bthen HBW2.out hb3)
        have hw1 : IntKind.i64.wrap ((p : Int) + (l : Int)) = (p : Int) + (l : Int) := IntWalk.i64_in _ (by omega)
        have HCE := Lib.hid (encEnt_cells z)
        clear hz1' hz2' hz3' hb3 q0 q1
        obtain ⟨tick, now, ⟨E, pp, q, F, x, y, t, D, X⟩⟩ := z
        have hown := HO3.out
        have hsz3 : w1.heap.size ≤ w3.heap.size := HBW3.out.size
        have hkp2 : k ≤ 1000000 := by omega
        go_wp2_with (at_builtin; refine wpList_append_own_at _ rfl _ _ 33 rfl w1.heap.size 46 i0 (.agg #[.bool false, .int .i64 0, .int .i64 0, .slice none 0 0, .slice none 0 0]) 5 72 Tryd.underlying33 hi0 hz0 hz1 hz2 rfl (by decide) _ _ _ rfl ((hown.alloc _).alloc _) ⟨w3.heap.size + 1, 0, none⟩ 1 1 (encEnt ⟨tick, now, ⟨E, pp, q, F, x, y, t, D, X⟩⟩) rfl rfl ?c1 ?c2 ?c3 ?c4 ?c5 ?_)
        case c1 => exact ent_news w3 _ _ _
        case c2 => exact one_encEnt _
        case c3 => unfold maxLen; omega
        case c4 => omega
        case c5 => simp; omega
        intro v' w4 hown' hgrow _ _
        have HA4 := Lib.hid (show Below w3.heap.size w3 ((w3.alloc (.cells #[.bool tick, .int .i64 now, .int .i64 t, .slice E pp q, .slice F x y] 46)).alloc (.cells #[.bool tick, .int .i64 now, .int .i64 t, .slice E pp q, .slice F x y] 46)) from bpush (bpush (Below.refl _ _) _) _)
        have hown4 := own_below hown HA4.out
        have HEV4 := Lib.hid (show ∀ y' ∈ Z ++ [(⟨tick, now, ⟨E, pp, q, F, x, y, t, D, X⟩⟩ : EZ)], EvO w4 y'.ev from fun y' hy => ((HEV3.out y' hy).keep HA4.out).grown hown4 (by decide) hgrow)
        have HOB4 := Lib.hid ((own_below HOB3.out HA4.out).kept hgrow (own_not_own (own_below HOB3.out HA4.out) hown4 (by decide)))
        have HBW4 := Lib.hid (show Below w1.heap.size w1 w4 from (bthen HBW3.out HA4.out).grown hgrow (by have h1 := HBW3.out.size; have := HA4.out.size; omega) (fun g hg => (hown4.lt g hg).1))
        have HO4 := Lib.hid (show w4.ownsRow w1.heap.size 46 5 v' (k + 1) (cellsJ (Z ++ [(⟨tick, now, ⟨E, pp, q, F, x, y, t, D, X⟩⟩ : EZ)])) from by rw [cellsJ_app, HCE.out]; exact hown')
        have HK4 := Lib.hid (show k + 1 = (Z ++ [(⟨tick, now, ⟨E, pp, q, F, x, y, t, D, X⟩⟩ : EZ)]).length from by rw [List.length_append, ← HK.out]; rfl)
        clear hown hown' hgrow hown4
        go_wp2_with fail
        go_roundw
        case rel => exact ⟨p + l, k + 1, _, by omega, by omega, by go_num, HK4, HO4, HEV4, HOB4, HBW4, HJ2⟩
        case measure => simp [intOf]; omega
      · have HST := Lib.hid (show JStop L M (bs.drop p) from fun xs' l' h => by
          rw [HFZ.out] at h
          simp only [Option.some.injEq, Prod.mk.injEq] at h
          obtain ⟨rfl, _⟩ := h
          exact hno)
        have HB3 := Lib.hid (bthen HBS2.out hb3)
        clear hb3 hno q0 q1
        go_wp2_with fail
        go_ret2
        exact FIN.out HST.out _ (bpush HB3.out _)
end Go.Proofs.YthogafecplhckaaDoor
