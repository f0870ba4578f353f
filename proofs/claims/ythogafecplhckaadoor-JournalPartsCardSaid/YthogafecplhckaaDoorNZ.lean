/- JournalParts (6). -/
import Derived.Test.YthogafecplhckaaDoorNX
namespace Go.Proofs.YthogafecplhckaaDoor
open Go.RowKit
set_option linter.unusedSimpArgs false
set_option linter.unusedVariables false
def paN : ByteArray := ⟨#[97]⟩
def pbN : ByteArray := ⟨#[98]⟩
def plN : ByteArray := ⟨#[97, 108, 108]⟩
theorem paN_name : nameB paN = true := by decide +kernel
theorem pbN_name : nameB pbN = true := by decide +kernel
theorem plN_name : nameB plN = true := by decide +kernel
theorem pab : paN ≠ pbN := by decide +kernel
theorem pal : paN ≠ plN := by decide +kernel
theorem pbl : pbN ≠ plN := by decide +kernel
/-- Entries appended to one file, then to another, and to a third. -/
structure Pp (L M : List ByteArray) (at' : Int) (P : VZ) (j k : Nat) (K : List EZ) : Prop where
  ok : VOk P
  room : P.room = 16777216
  armed : P.armed = false
  fewr : P.F.length ≤ 2 * j
  usedr : usedF P.F ≤ 9000 * j
  j40 : j ≤ 40
  right : ∀ z ∈ K, rightJ L M z
  kk : k ≤ K.length
  lk : K.length ≤ j
  order : (j : Int) ≤ at' → k = K.length
  cA : cntZ P paN = flatJ (K.take k)
  cB : cntZ P pbN = flatJ (K.drop k)
  cL : cntZ P plN = flatJ K
theorem Pp.few {L M : List ByteArray} {at' : Int} {P : VZ} {j k : Nat} {K : List EZ} (h : Pp L M at' P j k K) : P.F.length ≤ 80 := by have := h.fewr; have := h.j40; omega
theorem Pp.used {L M : List ByteArray} {at' : Int} {P : VZ} {j k : Nat} {K : List EZ} (h : Pp L M at' P j k K) : usedF P.F ≤ 360000 := by have := h.usedr; have := h.j40; omega
theorem Pp.start {L M : List ByteArray} {at' : Int} {P : VZ} (hF : P.F = []) (hr : P.room = 16777216) (ha : P.armed = false) : Pp L M at' P 0 0 [] :=
  ⟨⟨by rw [hF]; exact List.Pairwise.nil, fun f hf => by rw [hF] at hf; cases hf⟩, hr, ha, by rw [hF]; exact Nat.le_refl _, by rw [hF]; exact Nat.le_refl _, by omega, (fun z hz => by cases hz), Nat.le_refl _, Nat.le_refl _, fun _ => rfl, by unfold cntZ; rw [hF]; rfl, by unfold cntZ; rw [hF]; rfl, by unfold cntZ; rw [hF]; rfl⟩
theorem Pp.lens {L M : List ByteArray} {at' : Int} {P : VZ} {j k : Nat} {K : List EZ} (h : Pp L M at' P j k K) (hL : L.length ≤ 100) (hM : M.length ≤ 100) (hK : K.length ≤ 40) : (flatJ (K.take k)).length ≤ 180000 ∧ (flatJ (K.drop k)).length ≤ 180000 ∧ (flatJ K).length ≤ 180000 := by
  have h1 := flatJ_len hL hM (Z := K.take k) (fun y hy => h.right y (List.mem_of_mem_take hy))
  have h2 := flatJ_len hL hM (Z := K.drop k) (fun y hy => h.right y (List.mem_of_mem_drop hy))
  have h3 := flatJ_len hL hM (Z := K) h.right
  rw [List.length_take] at h1
  rw [List.length_drop] at h2
  omega
theorem Pp.half {L M : List ByteArray} {at' : Int} {V V6 : VZ} {j k : Nat} {K : List EZ} {z : EZ} {s : ByteArray} (h : Pp L M at' (normZ V) j k K) (hA : Appd (normZ V) (normZ V6) s (blockL (encJ z))) (hL : L.length ≤ 100) (hM : M.length ≤ 100) (hz : rightJ L M z) :
    V6.armed = false ∧ usedF V6.F + (blockL (encJ z)).length ≤ V6.room ∧ V6.F.length < 200 := by
  have h1 := hA.used
  have h2 := hA.len
  have h3 := hA.room
  have h4 := jblock_len hL hM hz
  have h5 := h.used
  have h6 := h.few
  have h7 := h.room
  rw [show (normZ V6).F = V6.F.map normF from rfl] at h1 h2
  rw [norm_used] at h1
  rw [List.length_map] at h2
  have h8 : V6.room = 16777216 := by rw [← h7]; exact h3
  refine ⟨hA.armed.trans h.armed, ?_, ?_⟩
  · rw [h8]; omega
  · omega
theorem flatJ_eq {Z : List EZ} {z : EZ} : flatJ (Z ++ [z]) = flatJ Z ++ blockL (encJ z) := flatJ_snoc Z z
theorem Pp.nextA {L M : List ByteArray} {at' : Int} {V V6 V7 : VZ} {j k : Nat} {K : List EZ} {z : EZ} (h : Pp L M at' (normZ V) j k K) (hA : Appd (normZ V) (normZ V6) paN (blockL (encJ z))) (hB : Appd (normZ V6) (normZ V7) plN (blockL (encJ z))) (hL : L.length ≤ 100) (hM : M.length ≤ 100) (hz : rightJ L M z) (hj : (j : Int) < at') (hj2 : j < 40) :
    Pp L M at' (normZ V7) (j + 1) (k + 1) (K ++ [z]) := by
  have h4 := jblock_len hL hM hz
  have hk : k = K.length := h.order (by omega)
  have hlen : (K ++ [z]).length = K.length + 1 := by simp
  refine ⟨hB.ok, hB.room.trans (hA.room.trans h.room), hB.armed.trans (hA.armed.trans h.armed), ?_, ?_, by omega, ?_, by omega, by have := h.lk; omega, fun _ => by omega, ?_, ?_, ?_⟩
  · have := hB.len; have := hA.len; have := h.fewr; omega
  · have := hB.used; have := hA.used; have := h.usedr; omega
  · intro y hy
    rcases List.mem_append.1 hy with h1 | h1
    · exact h.right y h1
    · rw [List.mem_singleton.1 h1]; exact hz
  · rw [(hB.far paN pal).1, hA.cnt, h.cA, hk, List.take_length, List.take_of_length_le (by omega), flatJ_snoc]
  · rw [(hB.far pbN pbl).1, (hA.far pbN pab.symm).1, h.cB, hk, List.drop_length, List.drop_of_length_le (by omega)]
  · rw [hB.cnt, (hA.far plN pal.symm).1, h.cL, flatJ_snoc]
theorem Pp.nextB {L M : List ByteArray} {at' : Int} {V V6 V7 : VZ} {j k : Nat} {K : List EZ} {z : EZ} (h : Pp L M at' (normZ V) j k K) (hA : Appd (normZ V) (normZ V6) pbN (blockL (encJ z))) (hB : Appd (normZ V6) (normZ V7) plN (blockL (encJ z))) (hL : L.length ≤ 100) (hM : M.length ≤ 100) (hz : rightJ L M z) (hj : ¬ (j : Int) < at') (hj2 : j < 40) :
    Pp L M at' (normZ V7) (j + 1) k (K ++ [z]) := by
  have h4 := jblock_len hL hM hz
  have hk := h.kk
  have hlen : (K ++ [z]).length = K.length + 1 := by simp
  refine ⟨hB.ok, hB.room.trans (hA.room.trans h.room), hB.armed.trans (hA.armed.trans h.armed), ?_, ?_, by omega, ?_, by omega, by have := h.lk; omega, fun h9 => by omega, ?_, ?_, ?_⟩
  · have := hB.len; have := hA.len; have := h.fewr; omega
  · have := hB.used; have := hA.used; have := h.usedr; omega
  · intro y hy
    rcases List.mem_append.1 hy with h1 | h1
    · exact h.right y h1
    · rw [List.mem_singleton.1 h1]; exact hz
  · rw [(hB.far paN pal).1, (hA.far paN pab).1, h.cA, List.take_append_of_le_length hk]
  · rw [(hB.far pbN pbl).1, hA.cnt, h.cB, List.drop_append_of_le_length hk, flatJ_snoc]
  · rw [hB.cnt, (hA.far plN pbl.symm).1, h.cL, flatJ_snoc]
theorem Pp.skip {L M : List ByteArray} {at' : Int} {P : VZ} {j k : Nat} {K : List EZ} (h : Pp L M at' P j k K) (hj : j < 40) : Pp L M at' P (j + 1) k K :=
  ⟨h.ok, h.room, h.armed, by have := h.fewr; omega, by have := h.usedr; omega, by omega, h.right, h.kk, by have := h.lk; omega, fun h9 => h.order (by omega), h.cA, h.cB, h.cL⟩
structure PSt (L M : List ByteArray) (Z : List EZ) (at' : Int) (w2 wr : World) (a : Nat) (j k : Nat) (kv : Value) (V : VZ) (K : List EZ) : Prop where
  v : VRep wr w2.heap.size a V
  p : Pp L M at' (normZ V) j k K
  ok : wr.ownsRow w2.heap.size 46 5 kv K.length (cellsJ K)
  mem : ∀ z ∈ K, z ∈ Z
  bw : Below w2.heap.size w2 wr
theorem PSt.below {L M : List ByteArray} {Z : List EZ} {at' : Int} {w2 wr w' : World} {a j k : Nat} {kv : Value} {V : VZ} {K : List EZ} (h : PSt L M Z at' w2 wr a j k kv V K) (hb : Below wr.heap.size wr w') : PSt L M Z at' w2 w' a j k kv V K :=
  ⟨h.v.below hb, h.p, own_below h.ok hb, h.mem, bthen h.bw hb⟩
theorem PSt.skip {L M : List ByteArray} {Z : List EZ} {at' : Int} {w2 wr : World} {a j k : Nat} {kv : Value} {V : VZ} {K : List EZ} (h : PSt L M Z at' w2 wr a j k kv V K) (hj : j < 40) : PSt L M Z at' w2 wr a (j + 1) k kv V K :=
  ⟨h.v, h.p.skip hj, h.ok, h.mem, h.bw⟩
theorem PSt.armed {L M : List ByteArray} {Z : List EZ} {at' : Int} {w2 wr : World} {a j k : Nat} {kv : Value} {V : VZ} {K : List EZ} (h : PSt L M Z at' w2 wr a j k kv V K) : V.armed = false := h.p.armed
theorem PSt.few {L M : List ByteArray} {Z : List EZ} {at' : Int} {w2 wr : World} {a j k : Nat} {kv : Value} {V : VZ} {K : List EZ} (h : PSt L M Z at' w2 wr a j k kv V K) : V.F.length < 200 := by
  have := h.p.few
  rw [show (normZ V).F = V.F.map normF from rfl, List.length_map] at this
  omega
theorem PSt.room1 {L M : List ByteArray} {Z : List EZ} {at' : Int} {w2 wr : World} {a j k : Nat} {kv : Value} {V : VZ} {K : List EZ} {z : EZ} (h : PSt L M Z at' w2 wr a j k kv V K) (hz : rightJ L M z) (hL : L.length ≤ 100) (hM : M.length ≤ 100) : usedF V.F + (blockL (encJ z)).length ≤ V.room := by
  have h1 := h.p.used
  have h2 := jblock_len hL hM hz
  have h3 : V.room = 16777216 := h.p.room
  rw [show (normZ V).F = V.F.map normF from rfl, norm_used] at h1
  omega
theorem slice_down (W : World) (D : Option Addr) (n c k : Nat) (hk : k ≤ n) (hc : n ≤ c) : Sem.run Tryd.prog (Instr.slice 33 (.slice D n c) (some (.int .i64 (k : Int))) none none) W = .ok (.slice (if c = k then D else D.map (·.add (k * 5))) (n - k) (c - k)) W := by
  have e : Tryd.prog.elem 33 = 46 := by kernel_rfl
  have hs : ∀ W, Sem.run Tryd.prog (Go.sizeOf (Tryd.prog.elem 33)) W = .ok 5 W := fun _ => by kernel_rfl
  rw [run_slice_l W 33 D n c (by rw [e]; exact Tryd.underlying33) .i64 k (by omega) (by omega), hs]
  simp only [Result.andThen, sliced, Int.toNat_natCast]
theorem EntsC.down {w : World} {A : Option Addr} {Z : List EZ} {n c k : Nat} (h : EntsC w A Z) (hn : n = Z.length) (hk : k ≤ n) (hc : n ≤ c) : EntsC w (if c = k then A else A.map (·.add (k * 5))) (Z.drop k) := by
  refine ⟨?_, fun z hz => h.good z (List.mem_of_mem_drop hz)⟩
  split
  · have : Z.drop k = [] := List.drop_of_length_le (by omega)
    rw [this]; exact .inl rfl
  · rcases h.row with h0 | ⟨b, off, rfl, hcl⟩
    · have : Z = [] := by
        have := cellsJ_length Z
        rw [h0] at this
        exact List.eq_nil_of_length_eq_zero (by simp at this; omega)
      rw [this]; exact .inl (by simp [cellsJ])
    · refine .inr ⟨b, off + k * 5, ?_, fun j u hu => ?_⟩
      · show some ((⟨b, off, none⟩ : Addr).add (k * 5)) = _
        unfold Addr.add
        split
        · rename_i h; rw [h]; rfl
        · rfl
      · rw [Nat.add_assoc]
        refine hcl _ u ?_
        have e : cellsJ Z = cellsJ (Z.take k) ++ cellsJ (Z.drop k) := by rw [← cellsJ_app, List.take_append_drop]
        rw [e, List.getElem?_append_right (by rw [cellsJ_length, List.length_take]; omega), cellsJ_length, List.length_take]
        rw [show k * 5 + j - min k Z.length * 5 = j by rw [Nat.min_eq_left (by omega)]; omega]
        exact hu
/-- Entries in rows of their own. -/
structure EntsO (w : World) (A : Option Addr) (c : Nat) (Z : List EZ) : Prop where
  row : w.ownsRow 0 46 5 (.slice A Z.length c) Z.length (cellsJ Z)
  ev : ∀ z ∈ Z, EvO w z.ev
theorem EntsO.keep {w w' : World} {A : Option Addr} {c : Nat} {Z : List EZ} (h : EntsO w A c Z) (hb : Below w.heap.size w w') : EntsO w' A c Z := ⟨own_below h.row hb, fun z hz => (h.ev z hz).keep hb⟩
theorem EntsO.ents {w : World} {A : Option Addr} {c : Nat} {Z : List EZ} (h : EntsO w A c Z) : EntsC w A Z := by
  obtain ⟨_, _, he, hr, _⟩ := own_slice5 h.row
  cases he
  exact ⟨hr, fun z hz => EvO.evg (h.ev z hz)⟩
theorem foot_own {w : World} {B B' a n size : Nat} {e : TypeId} {V : VZ} {v : Value} {xs : List Value} (hv : VRep w B a V) (h : w.ownsRow B' e size v n xs) (he : e ≠ 66 ∧ e ≠ 5) {g : Nat} (hg : v.ownBlock = some g) : ¬ Foot a V g := by
  rcases h.2 with ⟨rfl, _⟩ | ⟨g', cap, cur, rfl, _, hc, _⟩
  · cases hg
  · obtain rfl : g' = g := by simpa [Value.ownBlock] using hg
    rintro (h1 | h1 | ⟨f, hf, h1⟩)
    · subst h1
      have := hv.core.blk
      unfold Blk at this
      rw [hc] at this
      simp only [Option.some.injEq, Obj.cells.injEq] at this
      exact he.1 this.2.1
    · subst h1
      obtain ⟨m, es, clock, e, r⟩ := hv.core.map
      rw [hc] at e
      cases e
    · obtain ⟨_, _, cs, fz, h2⟩ := (hv.own f hf).lt h1
      rw [hc] at h2
      simp only [Option.some.injEq, Obj.cells.injEq] at h2
      exact he.2 h2.2.1
theorem EntsO.left {w w' : World} {A : Option Addr} {c B a : Nat} {Z : List EZ} {V V' : VZ} (h : EntsO w A c Z) (hv : VRep w B a V) (hl : Left w w' B a V V') : EntsO w' A c Z :=
  ⟨own_frS h.row hl.fr fun b hb => foot_own hv h.row (by decide) hb, fun z hz =>
    ⟨own_frS (h.ev z hz).od hl.fr fun b hb => foot_own hv (h.ev z hz).od (by decide) hb, own_frS (h.ev z hz).ox hl.fr fun b hb => foot_own hv (h.ev z hz).ox (by decide) hb, (h.ev z hz).sd⟩⟩
def JReadQ (w : World) (L M : List ByteArray) (bs : List Int) (e : Ending) (w' : World) : Prop :=
  ∃ A c Z k, e = .returned (.tuple #[.slice A Z.length c, .int .i64 (k : Nat)]) ∧ EntsO w' A c Z ∧ JRun L M Z k bs ∧ Below w.heap.size w w'
set_option maxRecDepth 100000 in
set_option maxHeartbeats 8000000 in
theorem jread2_any (B a : Nat) (V : VZ) (s : ByteArray) (A0 B0 : Option Addr) (n c m d : Nat) (L M : List ByteArray) (w : World) (hT : Tab w) (h : VRep w B a V) (hs : s.size ≤ 9223372036854775807) (hn : n = L.length) (hm : m = M.length) (hn2 : n ≤ 1000) (hm2 : m ≤ 1000) (bs : List Int) (hbs : bs = (lkF V.F s).bs) (hlen : bs.length ≤ 1000000) :
    Calls Tryd.prog 11 #[.pointer (some ⟨a, 0, none⟩), .string s, .agg #[.slice A0 n c, .slice B0 m d]] w (JReadQ w L M bs) := by
  obtain ⟨i0, hi0, hz0, hz1, hz2⟩ := info_parts info46
  obtain ⟨w1, hw1⟩ : ∃ w1, w1 = w.alloc (.cells #[.slice A0 n c, .slice B0 m d] 24) := ⟨_, rfl⟩
  have hb1 : Below w.heap.size w w1 := by rw [hw1]; exact bpush (Below.refl _ _) _
  have s0 : w1.cell? ⟨w.heap.size, 0, none⟩ = some (.slice A0 n c) := by rw [hw1]; exact cell_made rfl rfl
  have s1 : w1.cell? ⟨w.heap.size, 1, none⟩ = some (.slice B0 m d) := by rw [hw1]; exact cell_made rfl rfl
  have hby : bytes bs := by
    rw [hbs]
    unfold lkF
    cases hl : lookF V.F s with
    | none => intro x hx; cases hx
    | some f => exact h.byt f (look_name hl).2
  have HRD := Lib.hid (read_any B a V s w1 (h.below hb1) hs)
  have HCS := Lib.hid (fun W (hb : Below w1.heap.size w1 W) => show W.cell? ⟨w.heap.size, 0, none⟩ = some (.slice A0 n c) ∧ W.cell? ⟨w.heap.size, 1, none⟩ = some (.slice B0 m d) from ⟨cell_on hb s0, cell_on hb s1⟩)
  have HB1 := Lib.hid hb1
  have HW1 := Lib.hid hw1
  have HT := Lib.hid (hT.keep hb1)
  have HN := Lib.hid hn
  have HM := Lib.hid hm
  have HBY := Lib.hid hby
  have HBS := Lib.hid hbs
  clear hb1 hw1 hT h hn hm hby hbs s0 s1
  go_enter Tryd.func11, Tryd.ntmps11
  go_upto_region 1 with fail
  rw [← HW1.out]
  clear HW1
  go_wp2_with fail
  refine HRD.out.mono ?_
  rintro e w2 ⟨D0, nb, kb, rfl, ho2, hnb, _, hb2⟩
  rw [← HBS.out] at ho2 hnb
  obtain ⟨_, _, e1, hr2, hnk, hnil⟩ := own_slice ho2
  cases e1
  obtain ⟨is, his⟩ : ∃ is, is = (lookF V.F s).isSome := ⟨_, rfl⟩
  rw [← his]
  have HO2 := Lib.hid ho2
  have HNB := Lib.hid hnb
  have HNIL := Lib.hid hnil
  have HB2 := Lib.hid hb2
  have hnb2 : nb ≤ 1000000 := by omega
  clear his ho2 hr2 hnil hb2 hnb HRD HBS
  go_wp2_with fail
  go_loopw [10, 11] (fun v i wr => ∃ (p k : Nat) (Z : List EZ), p ≤ nb ∧ k ≤ p ∧ i = .int .i64 p ∧ Hid (k = Z.length) ∧ Hid (wr.ownsRow w1.heap.size 46 5 v k (cellsJ Z)) ∧ Hid (∀ z ∈ Z, EvO wr z.ev) ∧ Hid (wr.ownsRow w1.heap.size 5 1 (.slice D0 nb kb) nb (u8s bs)) ∧ Hid (Below w1.heap.size w1 wr) ∧ Hid (JPre L M Z p bs)) (fun _ i _ => nb - (intOf i).toNat)
  case atStart => exact ⟨0, 0, [], by omega, by omega, rfl, Lib.hid rfl, Lib.hid (World.ownsRow_nil _ _ _ _), Lib.hid (fun z hz => by cases hz), HO2, HB2, Lib.hid rfl⟩
  case round =>
    obtain ⟨p, k, Z, hp, hkp, rfl, HK, HO, HEV, HOB, HBW, HJ⟩ := hrel
    obtain ⟨A2, hA2⟩ : ∃ A2, A2 = if kb = p then D0 else D0.map (·.add p) := ⟨_, rfl⟩
    obtain ⟨_, _, e1, hrB, _, _⟩ := own_slice HOB.out
    cases e1
    have HA2 := Lib.hid (show Row wr A2 ((bs.drop p).map (Value.int .u8)) by
      rw [hA2]
      split
      · left; rw [List.drop_of_length_le (by have := HNB.out; omega)]; rfl
      · exact row_drop hrB p)
    have HN2 := Lib.hid (show A2 = none → kb - p = 0 by
      intro h
      rw [hA2] at h
      split at h
      · have := HNIL.out h; omega
      · cases D0 with
        | none => have := HNIL.out rfl; omega
        | some a => cases h)
    have HZ2 := Lib.hid (show nb - p = (bs.drop p).length by rw [List.length_drop, ← HNB.out])
    have HB2' := Lib.hid (show bytes (bs.drop p) from fun z hz => HBY.out z (List.mem_of_mem_drop hz))
    have HF := Lib.hid (first_any A2 (nb - p) (kb - p) (bs.drop p) wr (HT.out.keep HBW.out) HA2.out HZ2.out (by omega) (by omega) HB2'.out HN2.out)
    have hp0 : (0 : Int) ≤ (p : Int) := by omega
    have hsl : ∀ W, Sem.run Tryd.prog (Instr.slice 25 (.slice D0 nb kb) (some (.int .i64 (p : Int))) none none) W = .ok (.slice A2 (nb - p) (kb - p)) W := fun W => by
      rw [hA2]
      exact slice_from W D0 nb kb p hp hnk hnb2
    have FIN := Lib.hid (show JStop L M (bs.drop p) → ∀ w2 : World, Below wr.heap.size wr w2 → JReadQ w L M bs (.returned (.tuple #[u10, .int .i64 (p : Int)])) w2 from by
      intro hst w2 hb2
      obtain ⟨A4, c4, he, h1, h2, h3⟩ := own_slice5 (own_below HO.out hb2)
      have ho := own_below HO.out hb2
      rw [he, HK.out] at ho
      refine ⟨A4, c4, Z, p, by rw [he, HK.out], ⟨own_less ho (Nat.zero_le _), fun z hz => (HEV.out z hz).keep hb2⟩, ⟨HJ.out, hst⟩, bthen HB1.out (bthen HBW.out hb2)⟩)
    clear hA2 hrB
    cases ho : firstZ (bs.drop p) with
    | none =>
      have HST := Lib.hid (show JStop L M (bs.drop p) from fun xs l h => by rw [ho] at h; cases h)
      rw [ho] at HF
      clear ho
      go_wp2_with fail
      refine HF.out.mono ?_
      rintro e w2 ⟨rfl, hb2⟩
      have HP := Lib.hid (FIN.out HST.out _ hb2)
      clear hb2
      go_wp2_with fail
      go_ret2
      exact HP.out
    | some q =>
      obtain ⟨xs, l⟩ := q
      have hbd := firstZ_bd ho
      rw [← HZ2.out] at hbd
      obtain ⟨hl1, hl2, hl3⟩ := hbd
      have HFZ := Lib.hid ho
      rw [ho] at HF
      clear ho
      go_wp2_with fail
      refine HF.out.mono ?_
      rintro e w2 ⟨A3, c3, rfl, ho3, hr3, hb2⟩
      obtain ⟨lx, hlx⟩ : ∃ lx, lx = xs.length := ⟨_, rfl⟩
      rw [← hlx] at ho3 hl3 ⊢
      obtain ⟨_, _, e3, _, hc3, hn3⟩ := own_slice ho3
      cases e3
      have hxb : bytes xs := firstZ_bytes (HBY.out) HFZ.out
      have HDC := Lib.hid (decode_any A0 B0 A3 n c m d lx c3 L M xs w2 hr3 hlx (by omega) hxb hn3 HN.out HM.out hn2 hm2)
      have HLX := Lib.hid hlx
      have HBW2 := Lib.hid (bthen HBW.out hb2)
      have HO2 := Lib.hid (own_below HO.out hb2)
      have HOB2 := Lib.hid (own_below HOB.out hb2)
      have HBS2 := Lib.hid hb2
      obtain ⟨q0, q1⟩ := HCS.out w2 HBW2.out
      clear ho3 hr3 hc3 hn3 hxb hlx hb2
      go_wp2_with fail
      refine HDC.out.mono ?_
      rintro e w3 (⟨z, hz1', hz2', hz3', rfl, hb3⟩ | ⟨hno, rfl, hb3⟩)
      · have HJ2 := Lib.hid (HJ.out.snoc (l := l) (by rw [HFZ.out, hz2']) hz1')
        have HEV3 := Lib.hid (show ∀ y ∈ Z ++ [z], EvO w3 y.ev from fun y hy => by
          rcases List.mem_append.1 hy with h | h
          · exact ((HEV.out y h).keep HBS2.out).keep hb3
          · rw [List.mem_singleton.1 h]; exact hz3')
        have HO3 := Lib.hid (own_below HO2.out hb3)
        have HOB3 := Lib.hid (own_below HOB2.out hb3)
        have HBW3 := Lib.hid (bthen HBW2.out hb3)
        have hw1 : IntKind.i64.wrap ((p : Int) + (l : Int)) = (p : Int) + (l : Int) := IntWalk.i64_in _ (by omega)
        have HCE := Lib.hid (encEnt_cells z)
        clear hz1' hz2' hz3' hb3 q0 q1
        obtain ⟨tick, now, ⟨E, pp, q, F, x, y, t, D, X⟩⟩ := z
        have hown := HO3.out
        have hsz3 : w1.heap.size ≤ w3.heap.size := HBW3.out.size
        have hkp2 : k ≤ 1000000 := by omega
        go_wp2_with (at_builtin; refine wpList_append_own_at _ rfl _ _ 33 rfl w1.heap.size 46 i0 (.agg #[.bool false, .int .i64 0, .int .i64 0, .slice none 0 0, .slice none 0 0]) 5 72 Tryd.underlying33 hi0 hz0 hz1 hz2 rfl (by decide) _ _ _ rfl ((hown.alloc _).alloc _) ⟨w3.heap.size + 1, 0, none⟩ 1 1 (encEnt ⟨tick, now, ⟨E, pp, q, F, x, y, t, D, X⟩⟩) rfl rfl ?c1 ?c2 ?c3 ?c4 ?c5 ?_)
        case c1 => exact ent_news w3 _ _ _
        case c2 => exact one_encEnt _
        case c3 => unfold maxLen; omega
        case c4 => omega
        case c5 => simp; omega
        intro v' w4 hown' hgrow _ _
        have HA4 := Lib.hid (show Below w3.heap.size w3 ((w3.alloc (.cells #[.bool tick, .int .i64 now, .int .i64 t, .slice E pp q, .slice F x y] 46)).alloc (.cells #[.bool tick, .int .i64 now, .int .i64 t, .slice E pp q, .slice F x y] 46)) from bpush (bpush (Below.refl _ _) _) _)
        have hown4 := own_below hown HA4.out
        have HEV4 := Lib.hid (show ∀ y' ∈ Z ++ [(⟨tick, now, ⟨E, pp, q, F, x, y, t, D, X⟩⟩ : EZ)], EvO w4 y'.ev from fun y' hy => ((HEV3.out y' hy).keep HA4.out).grown hown4 (by decide) hgrow)
        have HOB4 := Lib.hid ((own_below HOB3.out HA4.out).kept hgrow (own_not_own (own_below HOB3.out HA4.out) hown4 (by decide)))
        have HBW4 := Lib.hid (show Below w1.heap.size w1 w4 from (bthen HBW3.out HA4.out).grown hgrow (by have h1 := HBW3.out.size; have := HA4.out.size; omega) (fun g hg => (hown4.lt g hg).1))
        have HO4 := Lib.hid (show w4.ownsRow w1.heap.size 46 5 v' (k + 1) (cellsJ (Z ++ [(⟨tick, now, ⟨E, pp, q, F, x, y, t, D, X⟩⟩ : EZ)])) from by rw [cellsJ_app, HCE.out]; exact hown')
        have HK4 := Lib.hid (show k + 1 = (Z ++ [(⟨tick, now, ⟨E, pp, q, F, x, y, t, D, X⟩⟩ : EZ)]).length from by rw [List.length_append, ← HK.out]; rfl)
        clear hown hown' hgrow hown4
        go_wp2_with fail
        go_roundw
        case rel => exact ⟨p + l, k + 1, _, by omega, by omega, by go_num, HK4, HO4, HEV4, HOB4, HBW4, HJ2⟩
        case measure => simp [intOf]; omega
      · have HST := Lib.hid (show JStop L M (bs.drop p) from fun xs' l' h => by
          rw [HFZ.out] at h
          simp only [Option.some.injEq, Prod.mk.injEq] at h
          obtain ⟨rfl, _⟩ := h
          exact hno)
        have HB3 := Lib.hid (bthen HBS2.out hb3)
        clear hb3 hno q0 q1
        go_wp2_with fail
        go_ret2
        exact FIN.out HST.out _ (bpush HB3.out _)
set_option maxRecDepth 100000 in
set_option maxHeartbeats 32000000 in
theorem parts_walk (A B V0 : Option Addr) (n c m d nl lc : Nat) (L M : List ByteArray) (Z : List EZ) (at' : Int) (w : World) (hT : Tab w) (hA : Row w A (texts L)) (hB : Row w B (texts M)) (hn : n = L.length) (hm : m = M.length) (hnc : n ≤ c) (hmd : m ≤ d) (ha : A = none → c = 0) (hb : B = none → d = 0)
    (hL : ∀ s ∈ L, s.size ≤ 9223372036854775807) (hM : ∀ s ∈ M, s.size ≤ 9223372036854775807) (hn2 : n ≤ 9223372036854775807) (hm2 : m ≤ 9223372036854775807) (hV : EntsC w V0 Z) (hl : nl = Z.length) (hl2 : nl ≤ 9223372036854775807) (hsz : SizedL Z) :
    Calls Tryd.prog 6 #[.agg #[.slice A n c, .slice B m d], .slice V0 nl lc, .int .i64 at'] w fun e w' => e = .returned (.bool true) ∧ Below w.heap.size w w' := by
  obtain ⟨i0, hi0, hz0, hz1, hz2⟩ := info_parts info46
  obtain ⟨W1, hW1⟩ : ∃ W1, W1 = w.alloc (.cells #[.slice A n c, .slice B m d] 24) := ⟨_, rfl⟩
  have hb1 : Below w.heap.size w W1 := by rw [hW1]; exact bpush (Below.refl _ _) _
  have HCC := Lib.hid (fun W (h : Below W1.heap.size W1 W) => show W.cell? ⟨w.heap.size, 0, none⟩ = some (.slice A n c) ∧ W.cell? ⟨w.heap.size, 1, none⟩ = some (.slice B m d) from by
    rw [hW1] at h
    exact ⟨cell_on h (cell_made rfl rfl), cell_on h (cell_made rfl rfl)⟩)
  obtain ⟨rf, hrf⟩ := bool_of (FitsJ L M Z)
  have HFIT := Lib.hid (fitsj_any A B V0 n c m d nl lc L M Z W1 (hA.keep (Nat.le_refl _) hb1) (hB.keep (Nat.le_refl _) hb1) (hV.keep (Nat.le_refl _) hb1) hn hm hl hnc hmd ha hb hL hM hn2 hm2 hl2 hsz rf hrf)
  have HT := Lib.hid (hT.keep hb1)
  have HN := Lib.hid hn
  have HM := Lib.hid hm
  have HL := Lib.hid hl
  have HRF := Lib.hid hrf
  have HENT1 := Lib.hid (hV.keep (Nat.le_refl _) hb1)
  have HSZ := Lib.hid hsz
  have HW1 := Lib.hid hW1
  have HBW1 := Lib.hid hb1
  clear hT hA hB hn hm hl hnc hmd ha hb hL hM hn2 hm2 hV hsz hW1 hb1 hrf
  go_enter Tryd.func6, Tryd.ntmps6
  go_upto_region 1 with fail
  rw [← HW1.out]
  clear HW1
  obtain ⟨q0, q1⟩ := HCC.out W1 (Below.refl _ _)
  go_wp2_with fail
  refine HFIT.out.mono ?_
  rintro e w2 ⟨rfl, hb2⟩
  have HBV := Lib.hid hb2
  clear hb2 q0 q1
  go_wp2_with fail
  refine (newG_any 16777216 w2 (by omega)).mono ?_
  rintro e w3 ⟨vb, a, rfl, hv3, hb3⟩
  have HV3 := Lib.hid hv3
  have HB3 := Lib.hid hb3
  clear hv3 hb3
  cases rf with
  | false =>
    have HAL := Lib.hid (alive_any w3 (HT.out.keep (bthen HBV.out HB3.out)))
    go_wp2_with (go_at_call 8; refine HAL.out.mono ?_; rintro e w4 ⟨rfl, hb4⟩)
    go_ret
    exact ⟨rfl, bthen HBW1.out (bthen HBV.out (bthen HB3.out hb4))⟩
  | true =>
    have hf := HRF.out.1 rfl
    have hn20 : n ≤ 20 ∧ m ≤ 20 := ⟨by rw [HN.out]; exact hf.l.1, by rw [HM.out]; exact hf.m.1⟩
    obtain ⟨hn20, hm20⟩ := hn20
    have hl40 : nl ≤ 40 := by rw [HL.out]; exact hf.n
    have HENT := Lib.hid (show EntsC w2 V0 Z from HENT1.out.keep (Nat.le_refl _) HBV.out)
    clear hf HENT1 HFIT HRF
    obtain ⟨V4, hV4⟩ : ∃ V4, V4 = newZ 16777216 vb := ⟨_, rfl⟩
    have HST0 := Lib.hid (show PSt L M Z at' w2 w3 a 0 0 (.slice none 0 0) V4 [] from ⟨by rw [hV4]; exact HV3.out, Pp.start (by rw [hV4]; rfl) (by rw [hV4]; rfl) (by rw [hV4]; rfl), World.ownsRow_nil _ _ _ _, (fun z hz => by cases hz), HB3.out⟩)
    clear hV4
    go_wp2_with fail
    go_loopw [10, 11, 12] (fun cv kv i wr => ∃ (j k : Nat) (V : VZ) (K : List EZ), j ≤ nl ∧ i = .int .i64 j ∧ cv = .int .i64 k ∧ Hid (PSt L M Z at' w2 wr a j k kv V K)) (fun _ _ i _ => nl - (intOf i).toNat)
    case atStart => exact ⟨0, 0, V4, [], Nat.zero_le _, rfl, rfl, HST0⟩
    case round =>
      clear HST0
      obtain ⟨j, k, V, K, hj, rfl, rfl, HST⟩ := hrel
      by_cases hlt : j < nl
      · have hkz : j < Z.length := by have := HL.out; omega
        have hki : (j : Int) < (nl : Int) := by omega
        have hk0 : (0 : Int) ≤ (j : Int) := by omega
        obtain ⟨b, off, hAe, -⟩ := HENT.out.at hkz
        subst hAe
        obtain ⟨z, hz⟩ : ∃ z, z = Z[j] := ⟨_, rfl⟩
        have HZC := Lib.hid (fun W (h : Below w2.heap.size w2 W) => show W.cell? ⟨b, off + j * 5, none⟩ = some (.bool z.tick) ∧ W.cell? ⟨b, off + j * 5 + 1, none⟩ = some (.int .i64 z.now) ∧ W.cell? ⟨b, off + j * 5 + 2, none⟩ = some (.int .i64 z.ev.t) ∧ W.cell? ⟨b, off + j * 5 + 3, none⟩ = some (.slice z.ev.E z.ev.p z.ev.q) ∧ W.cell? ⟨b, off + j * 5 + 4, none⟩ = some (.slice z.ev.F z.ev.x z.ev.y) from by rw [hz]; exact (HENT.out.keep (Nat.le_refl _) h).cells hkz)
        have hzm : z ∈ Z := by rw [hz]; exact List.getElem_mem _
        have HEV := Lib.hid (fun W (h : Below w2.heap.size w2 W) => show EvG W z.ev from (HENT.out.good z hzm).keep (Nat.le_refl _) h)
        have HSZ2 := Lib.hid (HSZ.out z hzm)
        have HZM := Lib.hid hzm
        have HSTd := Lib.hid (HST.out.below (below_drewN (Below.refl _ _) 1))
        clear hz hzm hkz
        by_cases hlat : (j : Int) < at'
        · have hat : ¬ at' ≤ (j : Int) := by omega
          have hat2 : (j : Int) < at' := by omega
          by_cases hr : rightJ L M z
          · have HJA := Lib.hid (jwell_any w2.heap.size a V paN A B n c m d L M z wr.drew (HT.out.keep (HBV.out.trans (HSTd.out.bw.mono HBV.out.size))) HSTd.out.v (by decide) (HEV.out _ HSTd.out.bw) HN.out HM.out (by omega) (by omega) HSZ2.out.1 HSZ2.out.2 HST.out.armed paN_name (HST.out.room1 hr (by have := HN.out; omega) (by have := HM.out; omega)) HST.out.few hr)
            have HR := Lib.hid hr
            have HSP := Lib.hid HST.out.p
            clear hr
            go_upto_region 13 with fail
            refine wp_region_held_drew (S := fun W => Below w2.heap.size wr W) (by kernel_rfl) (below_drewN (Below.refl _ _) 1) ?_
            intro hHeld
            refine take_want (i := 0) (v := ?v0k1) rfl (by kernel_rfl) (by kernel_rfl) (by kernel_rfl) (fun _ _ _ h => h) (by rfl) ?y0k1 (by assumption) ?r0k1
            case y0k1 => (intro w hSw; go_simp; all_goals with_reducible rfl)
            (try simp only [Act.put, List.setIfInBounds_toArray, List.set_cons_zero, List.set_cons_succ])
            refine take_want (i := 1) (v := ?v1k2) rfl (by kernel_rfl) (by kernel_rfl) (by kernel_rfl) (fun _ _ _ h => h) (by rfl) ?y1k2 (by assumption) ?r1k2
            case y1k2 => (intro w hSw; go_simp; all_goals with_reducible rfl)
            (try simp only [Act.put, List.setIfInBounds_toArray, List.set_cons_zero, List.set_cons_succ])
            refine take_want (i := 2) (v := ?v2k3) rfl (by kernel_rfl) (by kernel_rfl) (by kernel_rfl) (fun _ _ _ h => h) (by rfl) ?y2k3 (by assumption) ?r2k3
            case y2k3 => (intro w hSw; obtain ⟨q0, q1⟩ := HCC.out w (HBV.out.trans ((HST.out.bw.trans hSw).mono HBV.out.size)); go_simp; all_goals with_reducible rfl)
            (try simp only [Act.put, List.setIfInBounds_toArray, List.set_cons_zero, List.set_cons_succ])
            refine take_want (i := 3) (v := ?v3k4) rfl (by kernel_rfl) (by kernel_rfl) (by kernel_rfl) (fun _ _ _ h => h) (by rfl) ?y3k4 (by assumption) ?r3k4
            case y3k4 => (intro w hSw; go_simp; all_goals with_reducible rfl)
            (try simp only [Act.put, List.setIfInBounds_toArray, List.set_cons_zero, List.set_cons_succ])
            refine take_want (i := 4) (v := ?v4k5) rfl (by kernel_rfl) (by kernel_rfl) (by kernel_rfl) (fun _ _ _ h => h) (by rfl) ?y4k5 (by assumption) ?r4k5
            case y4k5 => (intro w hSw; go_simp; all_goals with_reducible rfl)
            (try simp only [Act.put, List.setIfInBounds_toArray, List.set_cons_zero, List.set_cons_succ])
            refine take_want (i := 5) (v := ?v5k6) rfl (by kernel_rfl) (by kernel_rfl) (by kernel_rfl) (fun _ _ _ h => h) (by rfl) ?y5k6 (by assumption) ?r5k6
            case y5k6 => (intro w hSw; go_simp; all_goals with_reducible rfl)
            (try simp only [Act.put, List.setIfInBounds_toArray, List.set_cons_zero, List.set_cons_succ])
            refine take_want (i := 6) (v := ?v6k7) rfl (by kernel_rfl) (by kernel_rfl) (by kernel_rfl) (fun _ _ _ h => h) (by rfl) ?y6k7 (by assumption) ?r6k7
            case y6k7 => (intro w hSw; obtain ⟨c0, c1, c2, c3, c4⟩ := HZC.out w (HST.out.bw.trans hSw); go_simp; all_goals with_reducible rfl)
            (try simp only [Act.put, List.setIfInBounds_toArray, List.set_cons_zero, List.set_cons_succ])
            refine wpAnyH_ready (rs := [7]) (by kernel_rfl) (by simp) ?_
            refine AllReadyH.cons rfl (fun K hK => ?_) AllReadyH.nil
            go_simp
            (go_at_call 16; refine HJA.out.mono ?_; rintro e w6 ⟨V6, rfl, hA6, hs6, hL6⟩)
            have HB56 := Lib.hid (show Below w2.heap.size wr w6 from hHeld.trans (Left.below' HSTd.out.v hL6 HSTd.out.bw.size))
            refine hK.out _ _ HB56.out (fun hHeld => ?_)
            clear hK K
            (try simp only [Act.put, List.setIfInBounds_toArray, List.set_cons_zero, List.set_cons_succ])
            refine take_want (i := 8) (v := ?v8k8) rfl (by kernel_rfl) (by kernel_rfl) (by kernel_rfl) (fun _ _ _ h => h) (by rfl) ?y8k8 (by assumption) ?r8k8
            case y8k8 => (intro w hSw; go_simp; all_goals with_reducible rfl)
            (try simp only [Act.put, List.setIfInBounds_toArray, List.set_cons_zero, List.set_cons_succ])
            refine wpAnyH_done (by kernel_rfl) ?_ _
            have HP6 := Lib.hid (HST.out.p.half hA6 (by have := HN.out; omega) (by have := HM.out; omega) HR.out)
            have HV6 := Lib.hid hL6.rep
            have HO6 := Lib.hid (hL6.ents HSTd.out.v HSTd.out.ok)
            have HBW6 := Lib.hid (HST.out.bw.trans HB56.out)
            have HA6 := Lib.hid hA6
            clear hA6 hs6 hL6 hHeld
            have HV6d := Lib.hid (HV6.out.below (below_drewN (Below.refl _ _) 1))
            have HJB := Lib.hid (jwell_any w2.heap.size a V6 plN A B n c m d L M z w6.drew (HT.out.keep (HBV.out.trans ((bthen HBW6.out (below_drewN (Below.refl _ _) 1)).mono HBV.out.size))) HV6d.out (by decide) (HEV.out _ (bthen HBW6.out (below_drewN (Below.refl _ _) 1))) HN.out HM.out (by omega) (by omega) HSZ2.out.1 HSZ2.out.2 HP6.out.1 plN_name HP6.out.2.1 HP6.out.2.2 HR.out)
            go_upto_region 14 with fail
            refine wp_region_held_drew (S := fun W => Below w2.heap.size w6 W) (by kernel_rfl) (below_drewN (Below.refl _ _) 1) ?_
            intro hHeld
            refine take_want (i := 0) (v := ?v0k9) rfl (by kernel_rfl) (by kernel_rfl) (by kernel_rfl) (fun _ _ _ h => h) (by rfl) ?y0k9 (by assumption) ?r0k9
            case y0k9 => (intro w hSw; go_simp; all_goals with_reducible rfl)
            (try simp only [Act.put, List.setIfInBounds_toArray, List.set_cons_zero, List.set_cons_succ])
            refine take_want (i := 1) (v := ?v1k10) rfl (by kernel_rfl) (by kernel_rfl) (by kernel_rfl) (fun _ _ _ h => h) (by rfl) ?y1k10 (by assumption) ?r1k10
            case y1k10 => (intro w hSw; obtain ⟨q0, q1⟩ := HCC.out w (HBV.out.trans ((HBW6.out.trans hSw).mono HBV.out.size)); go_simp; all_goals with_reducible rfl)
            (try simp only [Act.put, List.setIfInBounds_toArray, List.set_cons_zero, List.set_cons_succ])
            refine take_want (i := 2) (v := ?v2k11) rfl (by kernel_rfl) (by kernel_rfl) (by kernel_rfl) (fun _ _ _ h => h) (by rfl) ?y2k11 (by assumption) ?r2k11
            case y2k11 => (intro w hSw; go_simp; all_goals with_reducible rfl)
            (try simp only [Act.put, List.setIfInBounds_toArray, List.set_cons_zero, List.set_cons_succ])
            refine take_want (i := 3) (v := ?v3k12) rfl (by kernel_rfl) (by kernel_rfl) (by kernel_rfl) (fun _ _ _ h => h) (by rfl) ?y3k12 (by assumption) ?r3k12
            case y3k12 => (intro w hSw; go_simp; all_goals with_reducible rfl)
            (try simp only [Act.put, List.setIfInBounds_toArray, List.set_cons_zero, List.set_cons_succ])
            refine take_want (i := 4) (v := ?v4k13) rfl (by kernel_rfl) (by kernel_rfl) (by kernel_rfl) (fun _ _ _ h => h) (by rfl) ?y4k13 (by assumption) ?r4k13
            case y4k13 => (intro w hSw; go_simp; all_goals with_reducible rfl)
            (try simp only [Act.put, List.setIfInBounds_toArray, List.set_cons_zero, List.set_cons_succ])
            refine take_want (i := 5) (v := ?v5k14) rfl (by kernel_rfl) (by kernel_rfl) (by kernel_rfl) (fun _ _ _ h => h) (by rfl) ?y5k14 (by assumption) ?r5k14
            case y5k14 => (intro w hSw; obtain ⟨c0, c1, c2, c3, c4⟩ := HZC.out w (HBW6.out.trans hSw); go_simp; all_goals with_reducible rfl)
            (try simp only [Act.put, List.setIfInBounds_toArray, List.set_cons_zero, List.set_cons_succ])
            refine wpAnyH_ready (rs := [6]) (by kernel_rfl) (by simp) ?_
            refine AllReadyH.cons rfl (fun K hK => ?_) AllReadyH.nil
            go_simp
            (go_at_call 16; refine HJB.out.mono ?_; rintro e w7 ⟨V7, rfl, hA7, hs7, hL7⟩)
            have HB67 := Lib.hid (show Below w2.heap.size w6 w7 from hHeld.trans (Left.below' HV6d.out hL7 (bthen HBW6.out (below_drewN (Below.refl _ _) 1)).size))
            refine hK.out _ _ HB67.out (fun hHeld => ?_)
            clear hK K
            (try simp only [Act.put, List.setIfInBounds_toArray, List.set_cons_zero, List.set_cons_succ])
            refine take_want (i := 7) (v := ?v7k15) rfl (by kernel_rfl) (by kernel_rfl) (by kernel_rfl) (fun _ _ _ h => h) (by rfl) ?y7k15 (by assumption) ?r7k15
            case y7k15 => (intro w hSw; go_simp; all_goals with_reducible rfl)
            (try simp only [Act.put, List.setIfInBounds_toArray, List.set_cons_zero, List.set_cons_succ])
            refine wpAnyH_done (by kernel_rfl) ?_ _
            have HP7 := Lib.hid (HSP.out.nextA HA6.out hA7 (by have := HN.out; omega) (by have := HM.out; omega) HR.out hat2 (by omega))
            have HV7 := Lib.hid hL7.rep
            have HO7 := Lib.hid (hL7.ents HV6d.out (own_below HO6.out (below_drewN (Below.refl _ _) 1)))
            have HBW7 := Lib.hid (HBW6.out.trans HB67.out)
            clear hA7 hs7 hL7 hHeld
            obtain ⟨c0, c1, c2, c3, c4⟩ := HZC.out w7 HBW7.out
            have hs7 : w2.heap.size ≤ w7.heap.size := HBW7.out.size
            have hlk := HST.out.p.lk
            have hkk := HST.out.p.kk
            go_wp2_with (at_builtin; refine wpList_append_own_at _ rfl _ _ 33 rfl w2.heap.size 46 i0 (.agg #[.bool false, .int .i64 0, .int .i64 0, .slice none 0 0, .slice none 0 0]) 5 72 Tryd.underlying33 hi0 hz0 hz1 hz2 rfl (by decide) _ _ _ rfl (HO7.out.alloc _) ⟨w7.heap.size, 0, none⟩ 1 1 (encEnt z) rfl rfl ?c1 ?c2 ?c3 ?c4 ?c5 ?_)
            case c1 => first | exact ent_new1 w7 z _ | exact (fun j u h => by simpa [encEnt] using h)
            case c2 => exact one_encEnt _
            case c3 => unfold maxLen; omega
            case c4 => omega
            case c5 => (first | (simp; omega) | omega)
            intro kv' w8 hown' hgrow _ hblk
            have HV8 := Lib.hid ((HV7.out.below (bpush (Below.refl _ _) _)).grown (own_below HO7.out (bpush (Below.refl _ _) _)) hgrow)
            have HO8 := Lib.hid (show w8.ownsRow w2.heap.size 46 5 kv' (K ++ [z]).length (cellsJ (K ++ [z])) from by rw [cellsJ_app, encEnt_cells, List.length_append]; exact hown')
            have HBW8 := Lib.hid (show Below w2.heap.size w2 w8 from (bthen HBW7.out (bpush (Below.refl _ _) _)).grown hgrow (by simp; omega) (fun g hg => (HO7.out.lt g hg).1))
            have HFIN := Lib.hid (show PSt L M Z at' w2 w8 a (j + 1) (k + 1) kv' V7 (K ++ [z]) from ⟨HV8.out, HP7.out, HO8.out, fun y hy => (List.mem_append.1 hy).elim (HST.out.mem y) (fun h => by rw [List.mem_singleton.1 h]; exact HZM.out), HBW8.out⟩)
            clear hown' hgrow hblk c0 c1 c2 c3 c4
            go_wp2_with fail
            go_roundw
            case rel => exact ⟨j + 1, k + 1, V7, _, by omega, by go_num, by go_num, HFIN⟩
            case measure => simp [intOf]; omega
          · have HJA := Lib.hid (jappend_any w2.heap.size a V paN A B n c m d L M z wr.drew (HT.out.keep (HBV.out.trans (HSTd.out.bw.mono HBV.out.size))) HSTd.out.v (by decide) (HEV.out _ HSTd.out.bw) HN.out HM.out (by omega) (by omega) HSZ2.out.1 HSZ2.out.2)
            have HR := Lib.hid hr
            clear hr
            go_upto_region 13 with fail
            refine wp_region_held_drew (S := fun W => Below w2.heap.size wr W) (by kernel_rfl) (below_drewN (Below.refl _ _) 1) ?_
            intro hHeld
            refine take_want (i := 0) (v := ?v0k16) rfl (by kernel_rfl) (by kernel_rfl) (by kernel_rfl) (fun _ _ _ h => h) (by rfl) ?y0k16 (by assumption) ?r0k16
            case y0k16 => (intro w hSw; go_simp; all_goals with_reducible rfl)
            (try simp only [Act.put, List.setIfInBounds_toArray, List.set_cons_zero, List.set_cons_succ])
            refine take_want (i := 1) (v := ?v1k17) rfl (by kernel_rfl) (by kernel_rfl) (by kernel_rfl) (fun _ _ _ h => h) (by rfl) ?y1k17 (by assumption) ?r1k17
            case y1k17 => (intro w hSw; go_simp; all_goals with_reducible rfl)
            (try simp only [Act.put, List.setIfInBounds_toArray, List.set_cons_zero, List.set_cons_succ])
            refine take_want (i := 2) (v := ?v2k18) rfl (by kernel_rfl) (by kernel_rfl) (by kernel_rfl) (fun _ _ _ h => h) (by rfl) ?y2k18 (by assumption) ?r2k18
            case y2k18 => (intro w hSw; obtain ⟨q0, q1⟩ := HCC.out w (HBV.out.trans ((HST.out.bw.trans hSw).mono HBV.out.size)); go_simp; all_goals with_reducible rfl)
            (try simp only [Act.put, List.setIfInBounds_toArray, List.set_cons_zero, List.set_cons_succ])
            refine take_want (i := 3) (v := ?v3k19) rfl (by kernel_rfl) (by kernel_rfl) (by kernel_rfl) (fun _ _ _ h => h) (by rfl) ?y3k19 (by assumption) ?r3k19
            case y3k19 => (intro w hSw; go_simp; all_goals with_reducible rfl)
            (try simp only [Act.put, List.setIfInBounds_toArray, List.set_cons_zero, List.set_cons_succ])
            refine take_want (i := 4) (v := ?v4k20) rfl (by kernel_rfl) (by kernel_rfl) (by kernel_rfl) (fun _ _ _ h => h) (by rfl) ?y4k20 (by assumption) ?r4k20
            case y4k20 => (intro w hSw; go_simp; all_goals with_reducible rfl)
            (try simp only [Act.put, List.setIfInBounds_toArray, List.set_cons_zero, List.set_cons_succ])
            refine take_want (i := 5) (v := ?v5k21) rfl (by kernel_rfl) (by kernel_rfl) (by kernel_rfl) (fun _ _ _ h => h) (by rfl) ?y5k21 (by assumption) ?r5k21
            case y5k21 => (intro w hSw; go_simp; all_goals with_reducible rfl)
            (try simp only [Act.put, List.setIfInBounds_toArray, List.set_cons_zero, List.set_cons_succ])
            refine take_want (i := 6) (v := ?v6k22) rfl (by kernel_rfl) (by kernel_rfl) (by kernel_rfl) (fun _ _ _ h => h) (by rfl) ?y6k22 (by assumption) ?r6k22
            case y6k22 => (intro w hSw; obtain ⟨c0, c1, c2, c3, c4⟩ := HZC.out w (HST.out.bw.trans hSw); go_simp; all_goals with_reducible rfl)
            (try simp only [Act.put, List.setIfInBounds_toArray, List.set_cons_zero, List.set_cons_succ])
            refine wpAnyH_ready (rs := [7]) (by kernel_rfl) (by simp) ?_
            refine AllReadyH.cons rfl (fun K hK => ?_) AllReadyH.nil
            go_simp
            (go_at_call 16; refine HJA.out.mono ?_; rintro e w6 (⟨_, rfl, hb6⟩ | ⟨hrj, _⟩))
            case inr => exact absurd hrj HR.out
            have HST6 := Lib.hid (HSTd.out.below hb6)
            have HB56 := Lib.hid (show Below w2.heap.size wr w6 from (hHeld.trans (hb6.mono (by have h1 := hHeld.size; have h2 := HST.out.bw.size; omega))))
            refine hK.out _ _ HB56.out (fun hHeld => ?_)
            clear hK K
            (try simp only [Act.put, List.setIfInBounds_toArray, List.set_cons_zero, List.set_cons_succ])
            refine take_want (i := 8) (v := ?v8k23) rfl (by kernel_rfl) (by kernel_rfl) (by kernel_rfl) (fun _ _ _ h => h) (by rfl) ?y8k23 (by assumption) ?r8k23
            case y8k23 => (intro w hSw; go_simp; all_goals with_reducible rfl)
            (try simp only [Act.put, List.setIfInBounds_toArray, List.set_cons_zero, List.set_cons_succ])
            refine wpAnyH_done (by kernel_rfl) ?_ _
            clear hHeld hb6
            go_wp2_with fail
            go_roundw
            case rel => exact ⟨j + 1, k, V, K, by omega, by go_num, by rfl, Lib.hid (HST6.out.skip (by omega))⟩
            case measure => simp [intOf]; omega
        · have hat : at' ≤ (j : Int) := by omega
          have hat2 : ¬ (j : Int) < at' := by omega
          by_cases hr : rightJ L M z
          · have HJA := Lib.hid (jwell_any w2.heap.size a V pbN A B n c m d L M z wr.drew (HT.out.keep (HBV.out.trans (HSTd.out.bw.mono HBV.out.size))) HSTd.out.v (by decide) (HEV.out _ HSTd.out.bw) HN.out HM.out (by omega) (by omega) HSZ2.out.1 HSZ2.out.2 HST.out.armed pbN_name (HST.out.room1 hr (by have := HN.out; omega) (by have := HM.out; omega)) HST.out.few hr)
            have HR := Lib.hid hr
            have HSP := Lib.hid HST.out.p
            clear hr
            go_upto_region 13 with fail
            refine wp_region_held_drew (S := fun W => Below w2.heap.size wr W) (by kernel_rfl) (below_drewN (Below.refl _ _) 1) ?_
            intro hHeld
            refine take_want (i := 0) (v := ?v0k24) rfl (by kernel_rfl) (by kernel_rfl) (by kernel_rfl) (fun _ _ _ h => h) (by rfl) ?y0k24 (by assumption) ?r0k24
            case y0k24 => (intro w hSw; go_simp; all_goals with_reducible rfl)
            (try simp only [Act.put, List.setIfInBounds_toArray, List.set_cons_zero, List.set_cons_succ])
            refine take_want (i := 1) (v := ?v1k25) rfl (by kernel_rfl) (by kernel_rfl) (by kernel_rfl) (fun _ _ _ h => h) (by rfl) ?y1k25 (by assumption) ?r1k25
            case y1k25 => (intro w hSw; go_simp; all_goals with_reducible rfl)
            (try simp only [Act.put, List.setIfInBounds_toArray, List.set_cons_zero, List.set_cons_succ])
            refine take_want (i := 2) (v := ?v2k26) rfl (by kernel_rfl) (by kernel_rfl) (by kernel_rfl) (fun _ _ _ h => h) (by rfl) ?y2k26 (by assumption) ?r2k26
            case y2k26 => (intro w hSw; obtain ⟨q0, q1⟩ := HCC.out w (HBV.out.trans ((HST.out.bw.trans hSw).mono HBV.out.size)); go_simp; all_goals with_reducible rfl)
            (try simp only [Act.put, List.setIfInBounds_toArray, List.set_cons_zero, List.set_cons_succ])
            refine take_want (i := 3) (v := ?v3k27) rfl (by kernel_rfl) (by kernel_rfl) (by kernel_rfl) (fun _ _ _ h => h) (by rfl) ?y3k27 (by assumption) ?r3k27
            case y3k27 => (intro w hSw; go_simp; all_goals with_reducible rfl)
            (try simp only [Act.put, List.setIfInBounds_toArray, List.set_cons_zero, List.set_cons_succ])
            refine take_want (i := 4) (v := ?v4k28) rfl (by kernel_rfl) (by kernel_rfl) (by kernel_rfl) (fun _ _ _ h => h) (by rfl) ?y4k28 (by assumption) ?r4k28
            case y4k28 => (intro w hSw; go_simp; all_goals with_reducible rfl)
            (try simp only [Act.put, List.setIfInBounds_toArray, List.set_cons_zero, List.set_cons_succ])
            refine take_want (i := 5) (v := ?v5k29) rfl (by kernel_rfl) (by kernel_rfl) (by kernel_rfl) (fun _ _ _ h => h) (by rfl) ?y5k29 (by assumption) ?r5k29
            case y5k29 => (intro w hSw; go_simp; all_goals with_reducible rfl)
            (try simp only [Act.put, List.setIfInBounds_toArray, List.set_cons_zero, List.set_cons_succ])
            refine take_want (i := 6) (v := ?v6k30) rfl (by kernel_rfl) (by kernel_rfl) (by kernel_rfl) (fun _ _ _ h => h) (by rfl) ?y6k30 (by assumption) ?r6k30
            case y6k30 => (intro w hSw; obtain ⟨c0, c1, c2, c3, c4⟩ := HZC.out w (HST.out.bw.trans hSw); go_simp; all_goals with_reducible rfl)
            (try simp only [Act.put, List.setIfInBounds_toArray, List.set_cons_zero, List.set_cons_succ])
            refine wpAnyH_ready (rs := [7]) (by kernel_rfl) (by simp) ?_
            refine AllReadyH.cons rfl (fun K hK => ?_) AllReadyH.nil
            go_simp
            (go_at_call 16; refine HJA.out.mono ?_; rintro e w6 ⟨V6, rfl, hA6, hs6, hL6⟩)
            have HB56 := Lib.hid (show Below w2.heap.size wr w6 from hHeld.trans (Left.below' HSTd.out.v hL6 HSTd.out.bw.size))
            refine hK.out _ _ HB56.out (fun hHeld => ?_)
            clear hK K
            (try simp only [Act.put, List.setIfInBounds_toArray, List.set_cons_zero, List.set_cons_succ])
            refine take_want (i := 8) (v := ?v8k31) rfl (by kernel_rfl) (by kernel_rfl) (by kernel_rfl) (fun _ _ _ h => h) (by rfl) ?y8k31 (by assumption) ?r8k31
            case y8k31 => (intro w hSw; go_simp; all_goals with_reducible rfl)
            (try simp only [Act.put, List.setIfInBounds_toArray, List.set_cons_zero, List.set_cons_succ])
            refine wpAnyH_done (by kernel_rfl) ?_ _
            have HP6 := Lib.hid (HST.out.p.half hA6 (by have := HN.out; omega) (by have := HM.out; omega) HR.out)
            have HV6 := Lib.hid hL6.rep
            have HO6 := Lib.hid (hL6.ents HSTd.out.v HSTd.out.ok)
            have HBW6 := Lib.hid (HST.out.bw.trans HB56.out)
            have HA6 := Lib.hid hA6
            clear hA6 hs6 hL6 hHeld
            have HV6d := Lib.hid (HV6.out.below (below_drewN (Below.refl _ _) 1))
            have HJB := Lib.hid (jwell_any w2.heap.size a V6 plN A B n c m d L M z w6.drew (HT.out.keep (HBV.out.trans ((bthen HBW6.out (below_drewN (Below.refl _ _) 1)).mono HBV.out.size))) HV6d.out (by decide) (HEV.out _ (bthen HBW6.out (below_drewN (Below.refl _ _) 1))) HN.out HM.out (by omega) (by omega) HSZ2.out.1 HSZ2.out.2 HP6.out.1 plN_name HP6.out.2.1 HP6.out.2.2 HR.out)
            go_upto_region 14 with fail
            refine wp_region_held_drew (S := fun W => Below w2.heap.size w6 W) (by kernel_rfl) (below_drewN (Below.refl _ _) 1) ?_
            intro hHeld
            refine take_want (i := 0) (v := ?v0k32) rfl (by kernel_rfl) (by kernel_rfl) (by kernel_rfl) (fun _ _ _ h => h) (by rfl) ?y0k32 (by assumption) ?r0k32
            case y0k32 => (intro w hSw; go_simp; all_goals with_reducible rfl)
            (try simp only [Act.put, List.setIfInBounds_toArray, List.set_cons_zero, List.set_cons_succ])
            refine take_want (i := 1) (v := ?v1k33) rfl (by kernel_rfl) (by kernel_rfl) (by kernel_rfl) (fun _ _ _ h => h) (by rfl) ?y1k33 (by assumption) ?r1k33
            case y1k33 => (intro w hSw; obtain ⟨q0, q1⟩ := HCC.out w (HBV.out.trans ((HBW6.out.trans hSw).mono HBV.out.size)); go_simp; all_goals with_reducible rfl)
            (try simp only [Act.put, List.setIfInBounds_toArray, List.set_cons_zero, List.set_cons_succ])
            refine take_want (i := 2) (v := ?v2k34) rfl (by kernel_rfl) (by kernel_rfl) (by kernel_rfl) (fun _ _ _ h => h) (by rfl) ?y2k34 (by assumption) ?r2k34
            case y2k34 => (intro w hSw; go_simp; all_goals with_reducible rfl)
            (try simp only [Act.put, List.setIfInBounds_toArray, List.set_cons_zero, List.set_cons_succ])
            refine take_want (i := 3) (v := ?v3k35) rfl (by kernel_rfl) (by kernel_rfl) (by kernel_rfl) (fun _ _ _ h => h) (by rfl) ?y3k35 (by assumption) ?r3k35
            case y3k35 => (intro w hSw; go_simp; all_goals with_reducible rfl)
            (try simp only [Act.put, List.setIfInBounds_toArray, List.set_cons_zero, List.set_cons_succ])
            refine take_want (i := 4) (v := ?v4k36) rfl (by kernel_rfl) (by kernel_rfl) (by kernel_rfl) (fun _ _ _ h => h) (by rfl) ?y4k36 (by assumption) ?r4k36
            case y4k36 => (intro w hSw; go_simp; all_goals with_reducible rfl)
            (try simp only [Act.put, List.setIfInBounds_toArray, List.set_cons_zero, List.set_cons_succ])
            refine take_want (i := 5) (v := ?v5k37) rfl (by kernel_rfl) (by kernel_rfl) (by kernel_rfl) (fun _ _ _ h => h) (by rfl) ?y5k37 (by assumption) ?r5k37
            case y5k37 => (intro w hSw; obtain ⟨c0, c1, c2, c3, c4⟩ := HZC.out w (HBW6.out.trans hSw); go_simp; all_goals with_reducible rfl)
            (try simp only [Act.put, List.setIfInBounds_toArray, List.set_cons_zero, List.set_cons_succ])
            refine wpAnyH_ready (rs := [6]) (by kernel_rfl) (by simp) ?_
            refine AllReadyH.cons rfl (fun K hK => ?_) AllReadyH.nil
            go_simp
            (go_at_call 16; refine HJB.out.mono ?_; rintro e w7 ⟨V7, rfl, hA7, hs7, hL7⟩)
            have HB67 := Lib.hid (show Below w2.heap.size w6 w7 from hHeld.trans (Left.below' HV6d.out hL7 (bthen HBW6.out (below_drewN (Below.refl _ _) 1)).size))
            refine hK.out _ _ HB67.out (fun hHeld => ?_)
            clear hK K
            (try simp only [Act.put, List.setIfInBounds_toArray, List.set_cons_zero, List.set_cons_succ])
            refine take_want (i := 7) (v := ?v7k38) rfl (by kernel_rfl) (by kernel_rfl) (by kernel_rfl) (fun _ _ _ h => h) (by rfl) ?y7k38 (by assumption) ?r7k38
            case y7k38 => (intro w hSw; go_simp; all_goals with_reducible rfl)
            (try simp only [Act.put, List.setIfInBounds_toArray, List.set_cons_zero, List.set_cons_succ])
            refine wpAnyH_done (by kernel_rfl) ?_ _
            have HP7 := Lib.hid (HSP.out.nextB HA6.out hA7 (by have := HN.out; omega) (by have := HM.out; omega) HR.out hat2 (by omega))
            have HV7 := Lib.hid hL7.rep
            have HO7 := Lib.hid (hL7.ents HV6d.out (own_below HO6.out (below_drewN (Below.refl _ _) 1)))
            have HBW7 := Lib.hid (HBW6.out.trans HB67.out)
            clear hA7 hs7 hL7 hHeld
            obtain ⟨c0, c1, c2, c3, c4⟩ := HZC.out w7 HBW7.out
            have hs7 : w2.heap.size ≤ w7.heap.size := HBW7.out.size
            have hlk := HST.out.p.lk
            have hkk := HST.out.p.kk
            go_wp2_with (at_builtin; refine wpList_append_own_at _ rfl _ _ 33 rfl w2.heap.size 46 i0 (.agg #[.bool false, .int .i64 0, .int .i64 0, .slice none 0 0, .slice none 0 0]) 5 72 Tryd.underlying33 hi0 hz0 hz1 hz2 rfl (by decide) _ _ _ rfl (HO7.out.alloc _) ⟨w7.heap.size, 0, none⟩ 1 1 (encEnt z) rfl rfl ?c1 ?c2 ?c3 ?c4 ?c5 ?_)
            case c1 => first | exact ent_new1 w7 z _ | exact (fun j u h => by simpa [encEnt] using h)
            case c2 => exact one_encEnt _
            case c3 => unfold maxLen; omega
            case c4 => omega
            case c5 => (first | (simp; omega) | omega)
            intro kv' w8 hown' hgrow _ hblk
            have HV8 := Lib.hid ((HV7.out.below (bpush (Below.refl _ _) _)).grown (own_below HO7.out (bpush (Below.refl _ _) _)) hgrow)
            have HO8 := Lib.hid (show w8.ownsRow w2.heap.size 46 5 kv' (K ++ [z]).length (cellsJ (K ++ [z])) from by rw [cellsJ_app, encEnt_cells, List.length_append]; exact hown')
            have HBW8 := Lib.hid (show Below w2.heap.size w2 w8 from (bthen HBW7.out (bpush (Below.refl _ _) _)).grown hgrow (by simp; omega) (fun g hg => (HO7.out.lt g hg).1))
            have HFIN := Lib.hid (show PSt L M Z at' w2 w8 a (j + 1) k kv' V7 (K ++ [z]) from ⟨HV8.out, HP7.out, HO8.out, fun y hy => (List.mem_append.1 hy).elim (HST.out.mem y) (fun h => by rw [List.mem_singleton.1 h]; exact HZM.out), HBW8.out⟩)
            clear hown' hgrow hblk c0 c1 c2 c3 c4
            go_wp2_with fail
            go_roundw
            case rel => exact ⟨j + 1, k, V7, _, by omega, by go_num, by rfl, HFIN⟩
            case measure => simp [intOf]; omega
          · have HJA := Lib.hid (jappend_any w2.heap.size a V pbN A B n c m d L M z wr.drew (HT.out.keep (HBV.out.trans (HSTd.out.bw.mono HBV.out.size))) HSTd.out.v (by decide) (HEV.out _ HSTd.out.bw) HN.out HM.out (by omega) (by omega) HSZ2.out.1 HSZ2.out.2)
            have HR := Lib.hid hr
            clear hr
            go_upto_region 13 with fail
            refine wp_region_held_drew (S := fun W => Below w2.heap.size wr W) (by kernel_rfl) (below_drewN (Below.refl _ _) 1) ?_
            intro hHeld
            refine take_want (i := 0) (v := ?v0k39) rfl (by kernel_rfl) (by kernel_rfl) (by kernel_rfl) (fun _ _ _ h => h) (by rfl) ?y0k39 (by assumption) ?r0k39
            case y0k39 => (intro w hSw; go_simp; all_goals with_reducible rfl)
            (try simp only [Act.put, List.setIfInBounds_toArray, List.set_cons_zero, List.set_cons_succ])
            refine take_want (i := 1) (v := ?v1k40) rfl (by kernel_rfl) (by kernel_rfl) (by kernel_rfl) (fun _ _ _ h => h) (by rfl) ?y1k40 (by assumption) ?r1k40
            case y1k40 => (intro w hSw; go_simp; all_goals with_reducible rfl)
            (try simp only [Act.put, List.setIfInBounds_toArray, List.set_cons_zero, List.set_cons_succ])
            refine take_want (i := 2) (v := ?v2k41) rfl (by kernel_rfl) (by kernel_rfl) (by kernel_rfl) (fun _ _ _ h => h) (by rfl) ?y2k41 (by assumption) ?r2k41
            case y2k41 => (intro w hSw; obtain ⟨q0, q1⟩ := HCC.out w (HBV.out.trans ((HST.out.bw.trans hSw).mono HBV.out.size)); go_simp; all_goals with_reducible rfl)
            (try simp only [Act.put, List.setIfInBounds_toArray, List.set_cons_zero, List.set_cons_succ])
            refine take_want (i := 3) (v := ?v3k42) rfl (by kernel_rfl) (by kernel_rfl) (by kernel_rfl) (fun _ _ _ h => h) (by rfl) ?y3k42 (by assumption) ?r3k42
            case y3k42 => (intro w hSw; go_simp; all_goals with_reducible rfl)
            (try simp only [Act.put, List.setIfInBounds_toArray, List.set_cons_zero, List.set_cons_succ])
            refine take_want (i := 4) (v := ?v4k43) rfl (by kernel_rfl) (by kernel_rfl) (by kernel_rfl) (fun _ _ _ h => h) (by rfl) ?y4k43 (by assumption) ?r4k43
            case y4k43 => (intro w hSw; go_simp; all_goals with_reducible rfl)
            (try simp only [Act.put, List.setIfInBounds_toArray, List.set_cons_zero, List.set_cons_succ])
            refine take_want (i := 5) (v := ?v5k44) rfl (by kernel_rfl) (by kernel_rfl) (by kernel_rfl) (fun _ _ _ h => h) (by rfl) ?y5k44 (by assumption) ?r5k44
            case y5k44 => (intro w hSw; go_simp; all_goals with_reducible rfl)
            (try simp only [Act.put, List.setIfInBounds_toArray, List.set_cons_zero, List.set_cons_succ])
            refine take_want (i := 6) (v := ?v6k45) rfl (by kernel_rfl) (by kernel_rfl) (by kernel_rfl) (fun _ _ _ h => h) (by rfl) ?y6k45 (by assumption) ?r6k45
            case y6k45 => (intro w hSw; obtain ⟨c0, c1, c2, c3, c4⟩ := HZC.out w (HST.out.bw.trans hSw); go_simp; all_goals with_reducible rfl)
            (try simp only [Act.put, List.setIfInBounds_toArray, List.set_cons_zero, List.set_cons_succ])
            refine wpAnyH_ready (rs := [7]) (by kernel_rfl) (by simp) ?_
            refine AllReadyH.cons rfl (fun K hK => ?_) AllReadyH.nil
            go_simp
            (go_at_call 16; refine HJA.out.mono ?_; rintro e w6 (⟨_, rfl, hb6⟩ | ⟨hrj, _⟩))
            case inr => exact absurd hrj HR.out
            have HST6 := Lib.hid (HSTd.out.below hb6)
            have HB56 := Lib.hid (show Below w2.heap.size wr w6 from (hHeld.trans (hb6.mono (by have h1 := hHeld.size; have h2 := HST.out.bw.size; omega))))
            refine hK.out _ _ HB56.out (fun hHeld => ?_)
            clear hK K
            (try simp only [Act.put, List.setIfInBounds_toArray, List.set_cons_zero, List.set_cons_succ])
            refine take_want (i := 8) (v := ?v8k46) rfl (by kernel_rfl) (by kernel_rfl) (by kernel_rfl) (fun _ _ _ h => h) (by rfl) ?y8k46 (by assumption) ?r8k46
            case y8k46 => (intro w hSw; go_simp; all_goals with_reducible rfl)
            (try simp only [Act.put, List.setIfInBounds_toArray, List.set_cons_zero, List.set_cons_succ])
            refine wpAnyH_done (by kernel_rfl) ?_ _
            clear hHeld hb6
            go_wp2_with fail
            go_roundw
            case rel => exact ⟨j + 1, k, V, K, by omega, by go_num, by rfl, Lib.hid (HST6.out.skip (by omega))⟩
            case measure => simp [intOf]; omega
      · obtain rfl : j = nl := by omega
        have hge : ¬ (j : Int) < (j : Int) := by omega
        have HP := Lib.hid HST.out.p
        have hlk := HP.out.lk
        have hkk := HP.out.kk
        have HBXwr := Lib.hid (show Below W1.heap.size W1 wr from HBV.out.trans (HST.out.bw.mono HBV.out.size))
        have HBYwr := Lib.hid HST.out.bw
        have HVXwr := Lib.hid HST.out.v
        have HOXwr := Lib.hid HST.out.ok
        have hL100 : L.length ≤ 100 := by have := HN.out; omega
        have hM100 : M.length ≤ 100 := by have := HM.out; omega
        have HLN := Lib.hid (HP.out.lens hL100 hM100 (by omega))
        have HRT := Lib.hid (fun y (hy : y ∈ K.take k) => HP.out.right y (List.mem_of_mem_take hy))
        have HRD0 := Lib.hid (fun y (hy : y ∈ K.drop k) => HP.out.right y (List.mem_of_mem_drop hy))
        have HL100 := Lib.hid (And.intro hL100 hM100)
        have htl : (K.take k).length ≤ 40 := by rw [List.length_take]; omega
        have hdl : (K.drop k).length ≤ 40 := by rw [List.length_drop]; omega
        have HTL := Lib.hid (And.intro htl hdl)
        clear hlt hL100 hM100 htl hdl
        have HCNwa := Lib.hid (show flatJ (K.take k) = (lkF V.F paN).bs from by rw [← cnt_norm]; exact HP.out.cA.symm)
        have HRDwa := Lib.hid (jread2_any w2.heap.size a V paN A B n c m d L M wr (HT.out.keep HBXwr.out) HVXwr.out (by decide) HN.out HM.out (by omega) (by omega) (flatJ (K.take k)) HCNwa.out (by have := HLN.out.1; omega))
        obtain ⟨q0, q1⟩ := HCC.out wr HBXwr.out
        go_wp2_with fail
        refine HRDwa.out.mono ?_
        rintro e wa ⟨Awa, cwa, Zwa, kwa, rfl, hEwa, hrunwa, hbwa⟩
        clear q0 q1
        obtain ⟨hsamewa, hkwa⟩ := hrunwa.one (run_all HL100.out.1 HL100.out.2 HRT.out)
        have HSMwa := Lib.hid hsamewa
        have HRNwa := Lib.hid hrunwa.1.right
        have HEOwa := Lib.hid hEwa
        have HLBwa := Lib.hid (show Zwa.length ≤ 40 from by rw [hsamewa.len]; exact HTL.out.1)
        obtain ⟨lwa, hlwa⟩ : ∃ lwa, lwa = Zwa.length := ⟨_, rfl⟩
        rw [← hlwa]
        have hlbwa : lwa ≤ 40 := by have := HLBwa.out; omega
        have HLwa := Lib.hid hlwa
        have HKwa := Lib.hid hkwa
        have HVXwa := Lib.hid (HVXwr.out.below hbwa)
        have HOXwa := Lib.hid (own_below HOXwr.out hbwa)
        have HBXwa := Lib.hid (bthen HBXwr.out hbwa)
        have HBYwa := Lib.hid (bthen HBYwr.out hbwa)
        have HBwrwa := Lib.hid hbwa
        clear hEwa hrunwa hbwa hsamewa hlwa hkwa HRDwa
        have HCNwb := Lib.hid (show flatJ (K.drop k) = (lkF V.F pbN).bs from by rw [← cnt_norm]; exact HP.out.cB.symm)
        have HRDwb := Lib.hid (jread2_any w2.heap.size a V pbN A B n c m d L M wa (HT.out.keep HBXwa.out) HVXwa.out (by decide) HN.out HM.out (by omega) (by omega) (flatJ (K.drop k)) HCNwb.out (by have := HLN.out.2.1; omega))
        obtain ⟨q0, q1⟩ := HCC.out wa HBXwa.out
        go_wp2_with fail
        refine HRDwb.out.mono ?_
        rintro e wb ⟨Awb, cwb, Zwb, kwb, rfl, hEwb, hrunwb, hbwb⟩
        clear q0 q1
        obtain ⟨hsamewb, hkwb⟩ := hrunwb.one (run_all HL100.out.1 HL100.out.2 HRD0.out)
        have HSMwb := Lib.hid hsamewb
        have HRNwb := Lib.hid hrunwb.1.right
        have HEOwb := Lib.hid hEwb
        have HLBwb := Lib.hid (show Zwb.length ≤ 40 from by rw [hsamewb.len]; exact HTL.out.2)
        obtain ⟨lwb, hlwb⟩ : ∃ lwb, lwb = Zwb.length := ⟨_, rfl⟩
        rw [← hlwb]
        have hlbwb : lwb ≤ 40 := by have := HLBwb.out; omega
        have HLwb := Lib.hid hlwb
        have HKwb := Lib.hid hkwb
        have HVXwb := Lib.hid (HVXwa.out.below hbwb)
        have HOXwb := Lib.hid (own_below HOXwa.out hbwb)
        have HBXwb := Lib.hid (bthen HBXwa.out hbwb)
        have HBYwb := Lib.hid (bthen HBYwa.out hbwb)
        have HBwawb := Lib.hid hbwb
        clear hEwb hrunwb hbwb hsamewb hlwb hkwb HRDwb
        have HCNwc := Lib.hid (show flatJ K = (lkF V.F plN).bs from by rw [← cnt_norm]; exact HP.out.cL.symm)
        have HRDwc := Lib.hid (jread2_any w2.heap.size a V plN A B n c m d L M wb (HT.out.keep HBXwb.out) HVXwb.out (by decide) HN.out HM.out (by omega) (by omega) (flatJ K) HCNwc.out (by have := HLN.out.2.2; omega))
        obtain ⟨q0, q1⟩ := HCC.out wb HBXwb.out
        go_wp2_with fail
        refine HRDwc.out.mono ?_
        rintro e wc ⟨Awc, cwc, Zwc, kwc, rfl, hEwc, hrunwc, hbwc⟩
        clear q0 q1
        obtain ⟨hsamewc, hkwc⟩ := hrunwc.one (run_all HL100.out.1 HL100.out.2 HP.out.right)
        have HSMwc := Lib.hid hsamewc
        have HRNwc := Lib.hid hrunwc.1.right
        have HEOwc := Lib.hid hEwc
        have HLBwc := Lib.hid (show Zwc.length ≤ 40 from by rw [hsamewc.len]; exact (by omega))
        obtain ⟨lwc, hlwc⟩ : ∃ lwc, lwc = Zwc.length := ⟨_, rfl⟩
        rw [← hlwc]
        have hlbwc : lwc ≤ 40 := by have := HLBwc.out; omega
        have HLwc := Lib.hid hlwc
        have HKwc := Lib.hid hkwc
        have HVXwc := Lib.hid (HVXwb.out.below hbwc)
        have HOXwc := Lib.hid (own_below HOXwb.out hbwc)
        have HBXwc := Lib.hid (bthen HBXwb.out hbwc)
        have HBYwc := Lib.hid (bthen HBYwb.out hbwc)
        have HBwbwc := Lib.hid hbwc
        clear hEwc hrunwc hbwc hsamewc hlwc hkwc HRDwc
        obtain ⟨P1, hP1, hA1⟩ := app_well (P := normZ V) (s := plN) (bs := [128]) HP.out.ok plN_name HP.out.armed (by have h1 := HP.out.used; have h2 := HP.out.room; show usedF (normZ V).F + 1 ≤ (normZ V).room; omega) (by have := HP.out.few; omega)
        obtain ⟨wd, hwd⟩ : ∃ wd, wd = wc.alloc (.cells #[.int .u8 128] 5) := ⟨_, rfl⟩
        have hbd : Below wc.heap.size wc wd := by rw [hwd]; exact bpush (Below.refl _ _) _
        have HVXwd := Lib.hid (HVXwc.out.below hbd)
        have HAP := Lib.hid (append_any w2.heap.size a V plN (some ⟨wc.heap.size, 0, none⟩) 1 1 [128] wd HVXwd.out (by decide) (by rw [hwd]; exact Row.made rfl rfl) rfl (Nat.le_refl _) (fun h => by cases h) (fun y hy => by rw [List.mem_singleton.1 hy]; omega) (by omega) (fun _ b o hAe hf => by
          cases hAe
          have := (HVXwc.out.foot_lt hf).1
          omega))
        rw [hP1] at HAP
        have HA1 := Lib.hid hA1
        have HOXwd := Lib.hid (own_below HOXwc.out hbd)
        have HBXwd := Lib.hid (bthen HBXwc.out hbd)
        have HBYwd := Lib.hid (bthen HBYwc.out hbd)
        have HBcd := Lib.hid hbd
        have HWD := Lib.hid hwd
        clear hP1 hA1 hbd hwd hge
        go_upto_region 23 with (go_at_call 10; rw [← HWD.out]; refine HAP.out.mono ?_; rintro e we ⟨V1, rfl, hV1, hL1⟩; have HV1 := Lib.hid hV1; have HL1 := Lib.hid hL1; clear hV1 hL1)
        have HVXwe := Lib.hid HL1.out.rep
        have HOXwe := Lib.hid (HL1.out.ents HVXwd.out HOXwd.out)
        have HBYwe := Lib.hid (HBYwd.out.trans (Left.below' HVXwd.out HL1.out HBYwd.out.size))
        have HBXwe := Lib.hid (show Below W1.heap.size W1 we from HBV.out.trans (HBYwe.out.mono HBV.out.size))
        have hcl1 : cntZ (normZ V1) plN = flatJ K ++ [128] := by rw [show normZ V1 = P1 from HV1.out, HA1.out.cnt, HP.out.cL]
        have HCL1 := Lib.hid hcl1
        have hrl1 : JRun L M K (flatJ K).length (flatJ K ++ [128]) := run_flat HL100.out.1 HL100.out.2 HP.out.right (fun y hy => by rw [List.mem_singleton.1 hy]; omega) (stop_none first_128)
        have HRL1 := Lib.hid hrl1
        clear hcl1 hrl1 HAP
        have HCNwf := Lib.hid (show flatJ K ++ [128] = (lkF V1.F plN).bs from by rw [← cnt_norm]; exact HCL1.out.symm)
        have HRDwf := Lib.hid (jread2_any w2.heap.size a V1 plN A B n c m d L M we (HT.out.keep HBXwe.out) HVXwe.out (by decide) HN.out HM.out (by omega) (by omega) (flatJ K ++ [128]) HCNwf.out (by rw [List.length_append]; show _ + 1 ≤ _; have := HLN.out.2.2; omega))
        obtain ⟨q0, q1⟩ := HCC.out we HBXwe.out
        go_wp2_with fail
        refine HRDwf.out.mono ?_
        rintro e wf ⟨Awf, cwf, Zwf, kwf, rfl, hEwf, hrunwf, hbwf⟩
        clear q0 q1
        obtain ⟨hsamewf, hkwf⟩ := hrunwf.one HRL1.out
        have HSMwf := Lib.hid hsamewf
        have HRNwf := Lib.hid hrunwf.1.right
        have HEOwf := Lib.hid hEwf
        have HLBwf := Lib.hid (show Zwf.length ≤ 40 from by rw [hsamewf.len]; exact (by omega))
        obtain ⟨lwf, hlwf⟩ : ∃ lwf, lwf = Zwf.length := ⟨_, rfl⟩
        rw [← hlwf]
        have hlbwf : lwf ≤ 40 := by have := HLBwf.out; omega
        have HLwf := Lib.hid hlwf
        have HKwf := Lib.hid hkwf
        have HVXwf := Lib.hid (HVXwe.out.below hbwf)
        have HOXwf := Lib.hid (own_below HOXwe.out hbwf)
        have HBXwf := Lib.hid (bthen HBXwe.out hbwf)
        have HBYwf := Lib.hid (bthen HBYwe.out hbwf)
        have HBwewf := Lib.hid hbwf
        clear hEwf hrunwf hbwf hsamewf hlwf hkwf HRDwf
        have HBef := Lib.hid (show Below w2.heap.size we we from Below.refl _ _)
        have hmk : k ≤ K.length := hkk
        obtain ⟨Ak, ck, hkv, hrk, hck, hnk⟩ := own_slice5 HOXwf.out
        obtain ⟨lk, hlk2⟩ : ∃ lk, lk = K.length := ⟨_, rfl⟩
        rw [← hlk2] at hkv hck hmk
        have HLK := Lib.hid hlk2
        have hlk40 : lk ≤ 40 := by omega
        have HEK := Lib.hid (fun W (h : Below wf.heap.size wf W) => show EntsC W Ak K from ⟨hrk.keep (Nat.le_refl _) h, fun z hz => (HENT.out.good z (HST.out.mem z hz)).keep (Nat.le_refl _) (bthen HBYwf.out h)⟩)
        have hsl1 : ∀ W, Sem.run Tryd.prog (Instr.slice 33 (.slice Ak lk ck) none (some (.int .i64 (k : Int))) none) W = .ok (.slice Ak k ck) W := fun W => slice_at W Ak lk ck k (by omega)
        obtain ⟨Ad, hAd⟩ : ∃ Ad, Ad = (if ck = k then Ak else Ak.map (·.add (k * 5))) := ⟨_, rfl⟩
        have hsl2 : ∀ W, Sem.run Tryd.prog (Instr.slice 33 (.slice Ak lk ck) (some (.int .i64 (k : Int))) none none) W = .ok (.slice Ad (lk - k) (ck - k)) W := fun W => by rw [hAd]; exact slice_down W Ak lk ck k hmk hck
        have HED := Lib.hid (fun W (h : Below wf.heap.size wf W) => show EntsC W Ad (K.drop k) from by rw [hAd]; exact (HEK.out W h).down HLK.out hmk hck)
        have HET := Lib.hid (fun W (h : Below wf.heap.size wf W) => show EntsC W Ak (K.take k) from (HEK.out W h).upto k)
        have HXA := Lib.hid (fun W (h : Below wf.heap.size wf W) => show EntsC W Awa Zwa from (((((HEOwa.out.keep HBwawb.out).keep HBwbwc.out).keep HBcd.out).left HVXwd.out HL1.out).keep HBwewf.out).keep h |>.ents)
        have HXB := Lib.hid (fun W (h : Below wf.heap.size wf W) => show EntsC W Awb Zwb from ((((HEOwb.out.keep HBwbwc.out).keep HBcd.out).left HVXwd.out HL1.out).keep HBwewf.out).keep h |>.ents)
        have HXC := Lib.hid (fun W (h : Below wf.heap.size wf W) => show EntsC W Awc Zwc from (((HEOwc.out.keep HBcd.out).left HVXwd.out HL1.out).keep HBwewf.out).keep h |>.ents)
        have HXF := Lib.hid (fun W (h : Below wf.heap.size wf W) => show EntsC W Awf Zwf from (HEOwf.out.keep h).ents)
        have HSZK := Lib.hid (show ∀ Y : List EZ, (∀ y ∈ Y, y ∈ K) → SizedL Y from fun Y h z hz => HSZ.out z (HST.out.mem z (h z hz)))
        have HSA := Lib.hid (fun W (h : Below wf.heap.size wf W) => samel_any Awa Ak lwa cwa k ck Zwa (K.take k) W (HXA.out W h) (HET.out W h) HLwa.out (by rw [List.length_take]; have := HLK.out; omega) (by omega) (by omega) ((HXA.out W h).sized HRNwa.out (by have := HN.out; omega) (by have := HM.out; omega)) (HSZK.out _ (fun y hy => List.mem_of_mem_take hy)) true (by simp only [true_iff]; exact HSMwa.out))
        have HSB := Lib.hid (fun W (h : Below wf.heap.size wf W) => samel_any Awb Ad lwb cwb (lk - k) (ck - k) Zwb (K.drop k) W (HXB.out W h) (HED.out W h) HLwb.out (by rw [List.length_drop]; have := HLK.out; omega) (by omega) (by omega) ((HXB.out W h).sized HRNwb.out (by have := HN.out; omega) (by have := HM.out; omega)) (HSZK.out _ (fun y hy => List.mem_of_mem_drop hy)) true (by simp only [true_iff]; exact HSMwb.out))
        have HSC := Lib.hid (fun W (h : Below wf.heap.size wf W) => samel_any Awc Ak lwc cwc lk ck Zwc K W (HXC.out W h) (HEK.out W h) HLwc.out HLK.out (by omega) (by omega) ((HXC.out W h).sized HRNwc.out (by have := HN.out; omega) (by have := HM.out; omega)) (HSZK.out _ (fun y hy => hy)) true (by simp only [true_iff]; exact HSMwc.out))
        have HSF := Lib.hid (fun W (h : Below wf.heap.size wf W) => samel_any Awf Ak lwf cwf lk ck Zwf K W (HXF.out W h) (HEK.out W h) HLwf.out HLK.out (by omega) (by omega) ((HXF.out W h).sized HRNwf.out (by have := HN.out; omega) (by have := HM.out; omega)) (HSZK.out _ (fun y hy => hy)) true (by simp only [true_iff]; exact HSMwf.out))
        have HAL := Lib.hid (fun W (h : Below wf.heap.size wf W) => alive_any W (HT.out.keep (bthen HBXwf.out h)))
        have HSUM := Lib.hid (show kwc = kwa + kwb ∧ kwf = kwc ∧ kwa ≤ 180000 ∧ kwb ≤ 180000 from by
          have h1 := HKwa.out
          have h2 := HKwb.out
          have h3 := HKwc.out
          have h4 := HKwf.out
          have h5 := HLN.out
          have h6 : (flatJ K).length = (flatJ (K.take k)).length + (flatJ (K.drop k)).length := by rw [← List.length_append, ← flatJ_app, List.take_append_drop]
          omega)
        have hk0' : (0 : Int) ≤ (k : Int) := by omega
        have hkc : (k : Int) ≤ (lk : Int) := by omega
        rw [hkv]
        clear hAd hkv hlk2 hrk hnk
        go_wp2_with fail
        refine (HSA.out _ (by first | exact Below.refl _ _ | exact below_drewN (Below.refl _ _) 1)).mono ?_
        rintro e wg ⟨rfl, hbg⟩
        have HBg := Lib.hid hbg
        clear hbg
        go_wp2_with fail
        refine (HSB.out _ HBg.out).mono ?_
        rintro e wh ⟨rfl, hbh⟩
        have HBh := Lib.hid (bthen HBg.out hbh)
        clear hbh
        go_wp2_with fail
        refine (HSC.out _ HBh.out).mono ?_
        rintro e wi ⟨rfl, hbi⟩
        have HBi := Lib.hid (bthen HBh.out hbi)
        clear hbi
        go_wp2_with fail
        refine (HSF.out _ HBi.out).mono ?_
        rintro e wj ⟨rfl, hbj⟩
        have HBj := Lib.hid (bthen HBi.out hbj)
        clear hbj hsl1 hsl2
        obtain ⟨hs1, hs2, hs3, hs4⟩ := HSUM.out
        have e1 : ((kwc : Int) == (kwa : Int) + (kwb : Int)) = true := by rw [beq_iff_eq]; omega
        have e2 : ((kwf : Int) == (kwc : Int)) = true := by rw [beq_iff_eq]; omega
        have hwr : IntKind.i64.wrap ((kwa : Int) + (kwb : Int)) = (kwa : Int) + (kwb : Int) := IntWalk.i64_in _ (by omega)
        clear hs1 hs2
        go_wp2_with (go_at_call 8; refine (HAL.out _ HBj.out).mono ?_; rintro e wk ⟨rfl, hbk⟩)
        go_ret
        exact ⟨rfl, bthen HBW1.out (bthen HBXwf.out (bthen HBj.out hbk))⟩
end Go.Proofs.YthogafecplhckaaDoor
