/- Used: the program's (11), and its closure (27). -/
import Derived.Test.YtgaallkdfcckpaaFU
namespace Go.Proofs.Ytgaallkdfcckpaa
open Go.RowKit Go.Maps Go.Lib Go.Shelf
set_option linter.unusedSimpArgs false
set_option linter.unusedVariables false
/-- All blocks stay but those of texts and of slices of texts. -/
structure KeepU (W W' : World) : Prop where
  size : W.heap.size ≤ W'.heap.size
  blk : ∀ g t cs, t ≠ 9 → t ≠ 22 → Blk W g t cs → Blk W' g t cs
theorem KeepU.refl (W : World) : KeepU W W := ⟨Nat.le_refl _, fun _ _ _ _ _ h => h⟩
theorem KeepU.trans {A B C : World} (h : KeepU A B) (k : KeepU B C) : KeepU A C := ⟨Nat.le_trans h.size k.size, fun g t cs h1 h2 hb => k.blk g t cs h1 h2 (h.blk g t cs h1 h2 hb)⟩
theorem KeepU.below {A B : World} (h : Below A.heap.size A B) : KeepU A B := ⟨h.size, fun g t cs _ _ hb => hb.below h⟩
theorem KeepU.t {A B : World} (h : KeepU A B) : KeepT A B := ⟨h.size, fun g t cs ht hb => h.blk g t cs (by rcases ht with rfl | rfl <;> decide) (by rcases ht with rfl | rfl <;> decide) hb⟩
theorem own_ne {w : World} {B P : Nat} {v : Value} {n : Nat} {xs : List Value} {u : Value} (h : w.ownsRow B 9 1 v n xs) (hP : Blk w P 22 #[u]) : v.ownBlock ≠ some P := by
  intro e
  rcases h.2 with ⟨rfl, _⟩ | ⟨g, cap, cur, rfl, _, hh, _⟩
  · simp [Value.ownBlock] at e
  · simp [Value.ownBlock] at e
    subst e
    unfold Blk at hP
    rw [hP] at hh
    injection hh with hh
    injection hh with _ ht
    exact absurd ht (by decide)
theorem own_set {w : World} {B P : Nat} {v : Value} {n : Nat} {xs : List Value} {u : Value} (h : w.ownsRow B 9 1 v n xs) (hP : Blk w P 22 #[u]) (y : Value) : (w.setCell ⟨P, 0, none⟩ y).ownsRow B 9 1 v n xs := by
  have hne := own_ne h hP
  refine ⟨h.1, ?_⟩
  rcases h.2 with h2 | ⟨g, cap, cur, rfl, hb, hh, hr⟩
  · exact .inl h2
  · refine .inr ⟨g, cap, cur, rfl, hb, ?_, hr⟩
    rw [Below.heap_setCell w ⟨P, 0, none⟩ y g (by intro e; apply hne; rw [e]; rfl)]
    exact hh
theorem blk_grown {w w' : World} {g : Nat} {t : TypeId} {cs : Array Value} {row : Option Nat} (h : Blk w g t cs) (hg : w.grownBy w' row) (hr : row ≠ some g) : Blk w' g t cs := (hg.block g h.lt (Ne.symm hr)).trans h
theorem own_ne' {w : World} {B : Nat} {v : Value} {n : Nat} {xs : List Value} {g : Nat} {t : TypeId} {cs : Array Value} (h : w.ownsRow B 9 1 v n xs) (hP : Blk w g t cs) (ht9 : t ≠ 9) : v.ownBlock ≠ some g := by
  intro e
  rcases h.2 with ⟨rfl, _⟩ | ⟨g', cap, cur, rfl, _, hh, _⟩
  · simp [Value.ownBlock] at e
  · simp [Value.ownBlock] at e
    subst e
    unfold Blk at hP
    rw [hP] at hh
    injection hh with hh
    injection hh with _ ht
    exact absurd ht ht9
def AddPost (B P n : Nat) (L : List ByteArray) (w : World) (e : Ending) (w' : World) : Prop :=
  e = .returned (.tuple #[]) ∧ ∃ v, Blk w' P 22 #[v] ∧ w'.ownsRow B 9 1 v n (texts L) ∧ Below B w w' ∧ KeepU w w'
set_option maxRecDepth 100000 in
set_option maxHeartbeats 8000000 in
theorem take27 (B P : Nat) (x : FT) (v : Value) (n : Nat) (L : List ByteArray) (w : World) (hP : Blk w P 22 #[v]) (hBP : B ≤ P) (ho : w.ownsRow B 9 1 v n (texts L)) (hn : (n + 1) * 16 ≤ 140737488355328) (hB : B ≤ w.heap.size) :
    Calls Try.prog 55 #[.agg #[.int .i64 x.op, .string x.dim, .string x.val, .slice x.A x.n x.c], .pointer (some ⟨P, 0, none⟩)] w (AddPost B P (n + 1) (L ++ [x.dim]) w) := by
  obtain ⟨w1, hw1⟩ : ∃ w1, w1 = w.alloc (.cells #[.int .i64 x.op, .string x.dim, .string x.val, .slice x.A x.n x.c] 39) := ⟨_, rfl⟩
  have hb1 : Below w.heap.size w w1 := by rw [hw1]; exact bpush (Below.refl _ _) _
  have hK : Blk w1 w.heap.size 39 #[.int .i64 x.op, .string x.dim, .string x.val, .slice x.A x.n x.c] := by rw [hw1]; exact Blk.new _ _ _
  obtain ⟨s, hs⟩ : ∃ s, s = x.dim := ⟨_, rfl⟩
  obtain ⟨A, c, rfl, -, -, -⟩ := own_slice ho
  have c1 : w1.cell? ⟨w.heap.size, 1, none⟩ = some (.string s) := by rw [hK.cell 1, hs]; rfl
  have q0 : w1.cell? ⟨P, 0, none⟩ = some (.slice A n c) := by rw [(hP.below hb1).cell 0]; rfl
  obtain ⟨w2, hw2⟩ : ∃ w2, w2 = w1.alloc (.cells #[.string s] 9) := ⟨_, rfl⟩
  have hb2 : Below w.heap.size w w2 := by rw [hw2]; exact bpush hb1 _
  have HB2 := Lib.hid hb2
  have HO2 := Lib.hid (own_below ho hb2)
  have HP2 := Lib.hid (hP.below hb2)
  have HR2 := Lib.hid (show Row w2 (some ⟨w1.heap.size, 0, none⟩) (texts [s]) by rw [hw2]; exact Row.made (t := 9) rfl rfl)
  have HZ2 := Lib.hid (show B ≤ w2.heap.size from Nat.le_trans hB hb2.size)
  have HN := Lib.hid hn
  have HNN := Lib.hid (show (some (⟨w1.heap.size, 0, none⟩ : Addr)) = none → 1 = 0 from fun h => by cases h)
  rw [← hs] at hw1
  have HW1 := Lib.hid hw1
  have HW2 := Lib.hid hw2
  have HBP := Lib.hid hBP
  have HB := Lib.hid hB
  have q0' : w2.cell? ⟨P, 0, none⟩ = some (.slice A n c) := by rw [HP2.out.cell 0]; rfl
  rw [← hs]
  clear hw1 hw2 hb1 hb2 hK hs hP hBP ho hn hB
  go_enter Try.func55, Try.ntmps55
  go_upto_region 1 with fail
  rw [← HW1.out]
  go_wp2_with (at_builtin; rw [← HW2.out]; refine wpList_append_texts rfl _ _ rfl B (.slice A n c) n (texts L) rfl (some ⟨w1.heap.size, 0, none⟩) 1 1 [s] rfl HO2.out HR2.out rfl (Nat.le_refl _) HNN.out HN.out HZ2.out ?_; intro v3 w3 ho3 hg3 _; have HO3 := Lib.hid ho3; have HG3 := Lib.hid hg3; have hp3 := blk_grown HP2.out hg3 (own_ne HO2.out HP2.out); have HP3 := Lib.hid hp3; have q3 : w3.cell? ⟨P, 0, none⟩ = some (.slice A n c) := (by rw [hp3.cell 0]; rfl); have f3 := hp3.frozen 0; obtain ⟨A3, cc3, hv3, -, -, -⟩ := own_slice ho3; subst hv3; clear ho3 hg3 hp3)
  go_end0
  refine ⟨rfl, .slice A3 (n + 1) cc3, HP3.out.set_ 0 _, ?_, ?_, ?_⟩
  · have := own_set HO3.out HP3.out (.slice A3 (n + 1) cc3)
    rw [texts_append] at this
    exact this
  · have h1 : Below B w w2 := HB2.out.mono HB.out
    have h2 : Below B w2 w3 := grown_below HO2.out HG3.out HZ2.out
    exact (h1.trans h2).setCell (p := ⟨P, 0, none⟩) HBP.out _
  · have h1 := KeepU.below HB2.out
    refine h1.trans ⟨by have := HG3.out.size; simpa [World.setCell] using this, fun g t cs h9 h22 hb => ?_⟩
    have h3 := blk_grown hb HG3.out (own_ne' HO2.out hb h9)
    exact (Below.heap_setCell w3 ⟨P, 0, none⟩ _ g (h3.ne_ HP3.out h22)).trans h3
def usedL (L K : List ByteArray) : List ByteArray := L.filter (inT K)
/-- What holds while the conditions are gone through. -/
structure UsSt (w w3 : World) (P : Nat) (n : Nat) (BY : List ByteArray) (W : World) (Lf : List FT) : Prop where
  own : ∃ v, Blk W P 22 #[v] ∧ W.ownsRow w.heap.size 9 1 v (n + Lf.length) (texts (BY ++ Lf.map FT.dim))
  bel : Below w.heap.size w W
  keep : KeepU w3 W
theorem usedL_snoc (L K : List ByteArray) (k : Nat) (h : k < L.length) : usedL (L.take (k + 1)) K = usedL (L.take k) K ++ (if inT K L[k] then [L[k]] else []) := by
  unfold usedL
  rw [take_snoc _ _ h, List.filter_append]
  congr 1
  cases e : inT K L[k] <;> simp [List.filter_cons, e]
set_option maxRecDepth 100000 in
set_option maxHeartbeats 32000000 in
theorem used_any (A B : Option Addr) (n c m d : Nat) (L M : List ByteArray) (q : QZ) (w : World) (hL : StrsIn w A n c L) (hq : QIn w q) (hb20 : q.bn ≤ 1000) (hl : q.f.leaves.length ≤ 1000000) (hn20 : n ≤ 1000000) :
    Calls Try.prog 25 #[.agg #[.slice A n c, .slice B m d], .agg #[.slice q.tA q.tn q.tc, .int .i64 q.frm, .int .i64 q.upto, .int .i64 q.every, .slice q.bA q.bn q.bc, .int .i64 q.f.op, .string q.f.dim, .string q.f.val, .slice q.f.A q.f.n q.f.c, .slice q.hA q.hn q.hc, .int .i64 q.order, .int .i64 q.limit]] w (TextsP w (usedL L (q.BY ++ q.f.dims))) := by
  obtain ⟨w1, hw1⟩ : ∃ w1, w1 = (w.alloc (.cells #[.slice A n c, .slice B m d] 24)).alloc (.cells #[.slice q.tA q.tn q.tc, .int .i64 q.frm, .int .i64 q.upto, .int .i64 q.every, .slice q.bA q.bn q.bc, .int .i64 q.f.op, .string q.f.dim, .string q.f.val, .slice q.f.A q.f.n q.f.c, .slice q.hA q.hn q.hc, .int .i64 q.order, .int .i64 q.limit] 42) := ⟨_, rfl⟩
  have hb1 : Below w.heap.size w w1 := by rw [hw1]; exact bpush (bpush (Below.refl _ _) _) _
  have hSB : Blk w1 w.heap.size 24 #[.slice A n c, .slice B m d] := by
    rw [hw1]; exact (Blk.new w 24 #[.slice A n c, .slice B m d]).below (bpush (Below.refl _ _) _)
  have hQB : Blk w1 (w.heap.size + 1) 42 #[.slice q.tA q.tn q.tc, .int .i64 q.frm, .int .i64 q.upto, .int .i64 q.every, .slice q.bA q.bn q.bc, .int .i64 q.f.op, .string q.f.dim, .string q.f.val, .slice q.f.A q.f.n q.f.c, .slice q.hA q.hn q.hc, .int .i64 q.order, .int .i64 q.limit] := by
    have := Blk.new (w.alloc (.cells #[.slice A n c, .slice B m d] 24)) 42 #[.slice q.tA q.tn q.tc, .int .i64 q.frm, .int .i64 q.upto, .int .i64 q.every, .slice q.bA q.bn q.bc, .int .i64 q.f.op, .string q.f.dim, .string q.f.val, .slice q.f.A q.f.n q.f.c, .slice q.hA q.hn q.hc, .int .i64 q.order, .int .i64 q.limit]
    rw [hw1]; simpa using this
  obtain ⟨S, hSe⟩ : ∃ S, S = w.heap.size := ⟨_, rfl⟩
  obtain ⟨Q, hQe⟩ : ∃ Q, Q = w.heap.size + 1 := ⟨_, rfl⟩
  rw [← hSe] at hSB
  rw [← hQe] at hQB
  have HB1 := Lib.hid hb1
  have HSB := Lib.hid hSB
  have HQB := Lib.hid hQB
  have HW1 := Lib.hid hw1
  have HSE := Lib.hid hSe
  have HQE := Lib.hid hQe
  have HQ := Lib.hid hq
  have HL := Lib.hid hL
  have HX := Lib.hid (cloneT_any q.bA q.bn q.bc (texts q.BY) w1 (hq.by_.row.keep (Nat.le_refl _) hb1) (by simp [texts]; exact hq.by_.len.symm) (one_texts _) hq.by_.cap hq.by_.nil (by omega))
  obtain ⟨c0, c1, c2, c3, c4, c5, c6, c7, c8, c9, c10, c11⟩ := q_cells hQB
  have hnn := hL.max
  obtain ⟨bn, hbn⟩ : ∃ x, x = q.bn := ⟨_, rfl⟩
  rw [← hbn] at HX hb20
  have HBN := Lib.hid hbn
  have HLV0 := Lib.hid hl
  have HB20 := Lib.hid hb20
  have HN20 := Lib.hid hn20
  clear hw1 hb1 hSB hQB hL hq hSe hQe hbn hl hn20
  go_enter Try.func25, Try.ntmps25
  go_upto_region 1 with fail
  rw [← HW1.out, ← HQE.out, ← HSE.out]
  rw [← HBN.out] at c4
  go_upto_region 2 with (go_at_call 53; refine HX.out.mono ?_; rintro e w2 ⟨D, k2, rfl, ho2, hb2⟩; have HO2 := Lib.hid ho2; have HB2 := Lib.hid hb2; clear ho2 hb2)
  clear c0 c1 c2 c3 c4 c5 c6 c7 c8 c9 c10 c11
  obtain ⟨w3, hw3⟩ : ∃ w3, w3 = w2.alloc (.cells #[.slice D bn k2] 22) := ⟨_, rfl⟩
  have hb23 : Below w2.heap.size w2 w3 := by rw [hw3]; exact bpush (Below.refl _ _) _
  have hb13 : Below w1.heap.size w1 w3 := bthen HB2.out hb23
  have hPB : Blk w3 w2.heap.size 22 #[.slice D bn k2] := by rw [hw3]; exact Blk.new _ _ _
  obtain ⟨P, hPe⟩ : ∃ P, P = w2.heap.size := ⟨_, rfl⟩
  rw [← hPe] at hPB
  have hPW : w.heap.size ≤ P := by have h1 := HB1.out.size; have h2 := HB2.out.size; omega
  have HPE := Lib.hid hPe
  have hO3 : w3.ownsRow w.heap.size 9 1 (.slice D bn k2) bn (texts q.BY) := own_lower (own_below HO2.out hb23) HB1.out.size
  have HST0 := Lib.hid (show UsSt w w3 P bn q.BY w3 [] from ⟨⟨_, hPB, by simpa using hO3⟩, bthen HB1.out hb13, KeepU.refl _⟩)
  have hTK : Taker 55 #[.pointer (some ⟨P, 0, none⟩)] w q.f.leaves.length (fun W Lf => UsSt w w3 P bn q.BY W Lf) := {
    fn := fun args w => rfl
    old := fun W Lf h => h.bel
    more := fun W W' Lf h hb => by
      obtain ⟨v, h1, h2⟩ := h.own
      exact ⟨⟨v, h1.below hb, own_below h2 hb⟩, h.bel.trans (hb.mono h.bel.size), h.keep.trans (KeepU.below hb)⟩
    call := fun W Lf x hlt h hx => by
      obtain ⟨v, h1, h2⟩ := h.own
      refine (take27 w.heap.size P x v _ _ W h1 hPW h2 (by have := HLV0.out; have := HB20.out; omega) h.bel.size).mono ?_
      rintro e W' ⟨rfl, v', h3, h4, h5, h6⟩
      refine ⟨rfl, ⟨⟨v', h3, ?_⟩, h.bel.trans h5, h.keep.trans h6⟩, h6.t⟩
      rw [List.append_assoc] at h4
      simpa [Nat.add_assoc] using h4 }
  have HLV := Lib.hid (leaves_any hTK q.f w3 [] HQ.out.f (by simp) HST0.out)
  obtain ⟨c0, c1, c2, c3, c4, c5, c6, c7, c8, c9, c10, c11⟩ := q_cells (HQB.out.below hb13)
  have HS3 := Lib.hid (HSB.out.below hb13)
  have HW3 := Lib.hid hw3
  clear hw3 hb23 hb13 hPB hPe hPW hO3 hTK
  rw [← HW3.out, ← HPE.out]
  go_upto_region 3 with (go_at_call 54; refine HLV.out.mono ?_; rintro e w4 ⟨rfl, hi, -⟩; have HI4 := Lib.hid hi; clear hi)
  clear c0 c1 c2 c3 c4 c5 c6 c7 c8 c9 c10 c11
  rw [List.nil_append] at HI4
  obtain ⟨v, hv, ho⟩ := HI4.out.own
  obtain ⟨A4, k4, rfl, hr4, -, -⟩ := own_slice ho
  have HDM := Lib.hid (show q.BY ++ q.f.leaves.map FT.dim = q.BY ++ q.f.dims by rw [dims_leaves])
  rw [HDM.out] at ho hr4
  obtain ⟨kl, hkl⟩ : ∃ kl, kl = bn + q.f.leaves.length := ⟨_, rfl⟩
  rw [← hkl] at hv ho
  have HKL := Lib.hid (show kl = (q.BY ++ q.f.dims).length by rw [← HDM.out, hkl, List.length_append, List.length_map, ← HQ.out.by_.len, HBN.out])
  have hkl2 : kl ≤ 9223372036854775807 := by have := HLV0.out; omega
  have HR4 := Lib.hid hr4
  have HV4 := Lib.hid hv
  have HS4 := Lib.hid (HI4.out.keep.blk _ _ _ (by decide) (by decide) HS3.out)
  obtain ⟨s0, s1⟩ := s_cells HS4.out
  have HCP := Lib.hid (fun W (hW : Below w4.heap.size w4 W) => show W.cell? ⟨P, 0, none⟩ = some (.slice A4 kl k4) from by rw [(HV4.out.below hW).cell 0]; rfl)
  clear hr4 hv hkl ho
  go_upto_region 5 with fail
  clear s0 s1
  go_loopw [6, 19] (fun v6 v19 wr => ∃ (k : Nat) (v : Value), k ≤ n ∧ v19 = .int .i64 k ∧ v = v6 ∧ Hid (wr.ownsRow w4.heap.size 9 1 v (usedL (L.take k) (q.BY ++ q.f.dims)).length (texts (usedL (L.take k) (q.BY ++ q.f.dims)))) ∧ Hid (Below w4.heap.size w4 wr)) (fun _ i _ => n - (intOf i).toNat)
  case atStart => exact ⟨0, _, by omega, rfl, rfl, Lib.hid (World.ownsRow_nil _ _ _ _), Lib.hid (Below.refl _ _)⟩
  case round =>
    obtain ⟨k, vv, hk, rfl, rfl, HO, HB⟩ := hrel
    by_cases hlt : k < n
    · have hkz0 : (0 : Int) ≤ (k : Int) := by omega
      have hkz1 : (k : Int) < (n : Int) := by omega
      have hkz : k < L.length := by have := HL.out.len; omega
      obtain ⟨b, off, hAe, q0⟩ := text_cell (HL.out.row.keep (Nat.le_refl _) (HI4.out.bel.trans (HB.out.mono HI4.out.bel.size))) hkz
      obtain ⟨x, hx⟩ : ∃ x, x = L[k]'hkz := ⟨_, rfl⟩
      rw [← hx] at q0
      have HSN := Lib.hid (usedL_snoc L (q.BY ++ q.f.dims) k hkz)
      rw [← hx] at HSN
      have hlen : (usedL (L.take k) (q.BY ++ q.f.dims)).length ≤ k := Nat.le_trans (List.length_filter_le _ _) (List.length_take_le _ _)
      have hP := HCP.out wr HB.out
      obtain ⟨r, hr⟩ : ∃ r, r = inT (q.BY ++ q.f.dims) x := ⟨_, rfl⟩
      have HC := Lib.hid (contains_any A4 kl k4 (q.BY ++ q.f.dims) x wr (HR4.out.keep (Nat.le_refl _) HB.out) HKL.out hkl2 r (by rw [hr]; exact inT_iff))
      rw [← hr] at HSN
      obtain ⟨U, hU⟩ : ∃ U, U = usedL (L.take k) (q.BY ++ q.f.dims) := ⟨_, rfl⟩
      rw [← hU] at HSN hlen HO
      have HLEN := Lib.hid (show (U.length + 1) * 16 ≤ 140737488355328 by have := HN20.out; omega)
      rw [hAe]
      clear hlt hx hr hAe hU hlen
      cases r with
      | true =>
        obtain ⟨wb, hwb⟩ : ∃ wb, wb = wr.alloc (.cells #[.string x] 9) := ⟨_, rfl⟩
        have hbb : Below wr.heap.size wr wb := by rw [hwb]; exact bpush (Below.refl _ _) _
        have HOB := Lib.hid (own_below HO.out hbb)
        have HRB := Lib.hid (show Row wb (some ⟨wr.heap.size, 0, none⟩) (texts [x]) by rw [hwb]; exact Row.made (t := 9) rfl rfl)
        have HBB := Lib.hid (bthen HB.out hbb)
        have HZB := Lib.hid HBB.out.size
        have HNN := Lib.hid (show (some (⟨wr.heap.size, 0, none⟩ : Addr)) = none → 1 = 0 from fun h => by cases h)
        have HWB := Lib.hid hwb
        clear hwb hbb
        go_wp2_with (first
          | (at_builtin; rw [← HWB.out]; refine wpList_append_texts rfl _ _ rfl w4.heap.size vv U.length (texts U) rfl (some ⟨wr.heap.size, 0, none⟩) 1 1 [x] rfl HOB.out HRB.out rfl (Nat.le_refl _) HNN.out HLEN.out HZB.out ?_; intro v3 w5 ho3 hg3 _; have HO3 := Lib.hid ho3; have HB3 := Lib.hid (HBB.out.trans (grown_below HOB.out hg3 HZB.out)); clear ho3 hg3)
          | (go_at_call 23; refine HC.out.mono ?_; rintro e w5 ⟨rfl, rfl⟩))
        go_roundw
        case rel => exact ⟨k + 1, v3, by omega, by go_num, rfl, Lib.hid (by rw [HSN.out]; have := HO3.out; rw [texts_append] at this; simpa using this), HB3⟩
        case measure => simp [intOf]; omega
      | false =>
        go_wp2_with (go_at_call 23; refine HC.out.mono ?_; rintro e w5 ⟨rfl, rfl⟩)
        go_roundw
        case rel => exact ⟨k + 1, vv, by omega, by go_num, rfl, Lib.hid (by rw [HSN.out]; simpa using HO.out), HB⟩
        case measure => simp [intOf]; omega
    · obtain rfl : k = n := by omega
      have hkz1 : ¬ (k : Int) < (k : Int) := by omega
      have HE := Lib.hid (show L.take k = L from List.take_of_length_le (by have := HL.out.len; omega))
      clear hlt
      go_wp2_with fail
      go_ret
      exact ⟨vv, rfl, by have := own_lower HO.out HI4.out.bel.size; rw [HE.out] at this; exact this, HI4.out.bel.trans (HB.out.mono HI4.out.bel.size)⟩
end Go.Proofs.Ytgaallkdfcckpaa
