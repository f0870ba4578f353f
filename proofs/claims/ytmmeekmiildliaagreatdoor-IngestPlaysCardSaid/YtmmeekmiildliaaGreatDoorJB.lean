/- The document's index in memory; its New (15) and Count (23); what Add leaves alone. -/
import Derived.Test.YtmmeekmiildliaaGreatDoorIG
import Derived.Test.YtmmeekmiildliaaGreatDoorIJ
import Derived.Test.YtmmeekmiildliaaGreatDoorJA
import Derived.Test.YtmmeekmiildliaaGreatDoorSM
namespace Go.Proofs.YtmmeekmiildliaaGreatDoor
open Go.RowKit
set_option linter.unusedSimpArgs false
set_option linter.unusedVariables false
/-- The document's index: its block, its granularity, schema's lengths, rows. -/
structure Dx (w : World) (C dx : Nat) (g : Int) (L M : List ByteArray) (V : List RV) : Prop where
  blk : ∃ A n c E m d R k Z, Blk w dx 51 #[.slice A n c, .slice E m d, .int .i64 g, .slice R V.length k] ∧ n = L.length ∧ m = M.length ∧ V.length ≤ k ∧ (R = none → k = 0) ∧ Z.map Prod.snd = V ∧ RowsC w R Z
  lx : C ≤ dx
theorem Dx.keep {w w' : World} {C dx : Nat} {g : Int} {L M : List ByteArray} {V : List RV} (h : Dx w C dx g L M V) (hb : Below w.heap.size w w') : Dx w' C dx g L M V := by
  obtain ⟨A, n, c, E, m, d, R, k, Z, h1, h2, h3, h4, h5, h6, h7⟩ := h.blk
  exact ⟨⟨A, n, c, E, m, d, R, k, Z, h1.grown (grown_none hb) (by simp), h2, h3, h4, h5, h6, h7.keep hb⟩, h.lx⟩
theorem map_nocell {w : World} {b off : Nat} {es : Array MapEntry} {cl : Nat} (h : w.heap[b]? = some (.map es cl)) {u : Value} : w.cell? ⟨b, off, none⟩ ≠ some u := by
  intro e
  simp [World.cell?, h] at e
theorem cell_same {w w' : World} {b off : Nat} (h : w'.heap[b]? = w.heap[b]?) : w'.cell? ⟨b, off, none⟩ = w.cell? ⟨b, off, none⟩ := by
  simp [World.cell?, h]
theorem row_kx {bx mb : Nat} {w w' : World} {A : Option Addr} {xs : List Value} {t : TypeId} {cs : Array Value} {es : Array MapEntry} {cl : Nat} (h : Row w A xs) (hk : Kx bx mb w w') (hb : Blk w bx t cs) (hm : w.heap[mb]? = some (.map es cl))
    (hx : ∀ off : Nat, xs ≠ [] → ¬ ∀ (j : Nat) (u : Value), xs[j]? = some u → cs[off + j]? = some u) : Row w' A xs := by
  rcases h with h0 | ⟨b, off, rfl, hc⟩
  · exact .inl h0
  · by_cases h0 : xs = []
    · exact .inl h0
    · refine .inr ⟨b, off, rfl, fun j u hu => ?_⟩
      have h1 := hc j u hu
      have hbx : b ≠ bx := fun e => by
        subst e
        exact hx off h0 fun j u hu => by rw [← hb.cell]; exact hc j u hu
      have hmb : b ≠ mb := fun e => by
        subst e
        exact map_nocell hm h1
      rw [cell_same (hk.block b (lt_of_cell h1) hbx hmb)]
      exact h1
section
variable {A E : Option Addr} {n c m d : Nat} {g nn : Int} {mb : Nat}
theorem no_texts (D : List ByteArray) (off : Nat) (h0 : texts D ≠ []) : ¬ ∀ (j : Nat) (u : Value), (texts D)[j]? = some u → (#[.slice A n c, .slice E m d, .int .i64 g, .map (some mb), .int .i64 nn] : Array Value)[off + j]? = some u := by
  intro h
  cases D with
  | nil => exact h0 rfl
  | cons s D =>
    have := h 0 _ rfl
    match off, this with
    | 0, h => simp at h
    | 1, h => simp at h
    | 2, h => simp at h
    | 3, h => simp at h
    | 4, h => simp at h
    | k + 5, h => simp at h
theorem no_aggs (D : List Ag) (off : Nat) (h0 : cellsG D ≠ []) : ¬ ∀ (j : Nat) (u : Value), (cellsG D)[j]? = some u → (#[.slice A n c, .slice E m d, .int .i64 g, .map (some mb), .int .i64 nn] : Array Value)[off + j]? = some u := by
  intro h
  cases D with
  | nil => exact h0 rfl
  | cons s D =>
    have h1 := h 0 (.int .i64 s.1) rfl
    have h2 := h 1 (.int .i64 s.2.1) rfl
    have h3 := h 2 (.int .i64 s.2.2) rfl
    match off, h1, h2, h3 with
    | 0, h, _, _ => simp at h
    | 1, h, _, _ => simp at h
    | 2, _, h, _ => simp at h
    | 3, h, _, _ => simp at h
    | 4, _, h, _ => simp at h
    | k + 5, h, _, _ => simp at h
theorem no_rows (Z : List RZ) (off : Nat) (h0 : cellsR Z ≠ []) : ¬ ∀ (j : Nat) (u : Value), (cellsR Z)[j]? = some u → (#[.slice A n c, .slice E m d, .int .i64 g, .map (some mb), .int .i64 nn] : Array Value)[off + j]? = some u := by
  intro h
  cases Z with
  | nil => exact h0 rfl
  | cons s D =>
    have h1 := h 0 (.int .i64 s.2.t) rfl
    have h2 := h 1 (.slice s.1.D s.1.n s.1.c) rfl
    match off, h1, h2 with
    | 0, h, _ => simp at h
    | 1, h, _ => simp at h
    | 2, _, h => simp at h
    | 3, h, _ => simp at h
    | 4, _, h => simp at h
    | k + 5, h, _ => simp at h
end
theorem rowsc_kx {bx mb : Nat} {w w' : World} {R : Option Addr} {Z : List RZ} {A E : Option Addr} {n c m d : Nat} {g nn : Int} {es : Array MapEntry} {cl : Nat} (h : RowsC w R Z) (hk : Kx bx mb w w') (hb : Blk w bx 73 #[.slice A n c, .slice E m d, .int .i64 g, .map (some mb), .int .i64 nn]) (hm : w.heap[mb]? = some (.map es cl)) : RowsC w' R Z :=
  ⟨row_kx h.row hk hb hm (no_rows Z), fun z hz => { h.good z hz with rd := row_kx (h.good z hz).rd hk hb hm (no_texts _), rg := row_kx (h.good z hz).rg hk hb hm (no_aggs _) }⟩
theorem Dx.kx {w w' : World} {C dx B bx mb nn : Nat} {g g2 : Int} {L M L2 M2 : List ByteArray} {V V2 : List RV} (h : Dx w C dx g L M V) (h2 : Ix w B bx mb g2 L2 M2 V2 nn) (hk : Kx bx mb w w') : Dx w' C dx g L M V := by
  obtain ⟨es2, cl2, hb2⟩ := h2.map
  obtain ⟨A2, n2, c2, E2, m2, d2, hk2, _⟩ := h2.blk
  obtain ⟨A, n, c, E, m, d, R, k, Z, h1, h2', h3, h4, h5, h6, h7⟩ := h.blk
  have e1 : dx ≠ bx := fun e => by rw [Blk, e] at h1; rw [Blk, h1] at hk2; cases hk2
  have e2 : dx ≠ mb := fun e => by rw [Blk, e, hb2] at h1; cases h1
  exact ⟨⟨A, n, c, E, m, d, R, k, Z, (hk.block dx h1.lt e1 e2).trans h1, h2', h3, h4, h5, h6, rowsc_kx h7 hk hk2 hb2⟩, h.lx⟩
/-- But for one block of the document's index, nothing turns. -/
theorem Near.own51 {dx : Nat} {w w' : World} (hn : Near dx w.heap.size w w') {cs : Array Value} (hb : Blk w dx 51 cs) {C size n : Nat} {e : TypeId} {v : Value} {xs : List Value} (h : w.ownsRow C e size v n xs) (ht : (51 : TypeId) ≠ e) : w'.ownsRow C e size v n xs :=
  hn.own h (Nat.le_refl _) (h.not_blk hb ht)
theorem Ix.near {w w' : World} {B bx mb nn dx : Nat} {g : Int} {L M : List ByteArray} {V : List RV} (h : Ix w B bx mb g L M V nn) {cs : Array Value} (hb : Blk w dx 51 cs) (hn : Near dx w.heap.size w w') : Ix w' B bx mb g L M V nn := by
  obtain ⟨A, n, c, E, m, d, h3, h4, h5⟩ := h.blk
  obtain ⟨D, Z, hown, hD, hV, hO⟩ := h.rows
  have hb3 := hown
  obtain ⟨es, cl, hm, _⟩ := hb3
  have e1 : bx ≠ dx := fun e => by rw [Blk, e] at h3; rw [Blk, h3] at hb; cases hb
  have e2 : mb ≠ dx := fun e => by rw [Blk, ← e, hm] at hb; cases hb
  refine ⟨h.sch, h.gran, ⟨A, n, c, E, m, d, (hn.block bx h3.lt e1).trans h3, hn.own51 hb h4 (by decide), hn.own51 hb h5 (by decide)⟩, ⟨D, Z, ?_, hD, hV, fun z hz => ?_⟩, h.ok, h.lx, h.lm⟩
  · obtain ⟨es, cl, hb0, hF, hs, he⟩ := hown
    exact ⟨es, cl, (hn.block mb (lt_of_heap hb0) e2).trans hb0, hF, hs, he⟩
  · have ho := hO z hz
    exact ⟨hn.own51 hb ho.d (by decide), hn.own51 hb ho.g (by decide), ho.sd, ho.sg⟩
def RNewPost (w : World) (g : Int) (L M : List ByteArray) (x : Int) (e : Ending) (w' : World) : Prop :=
  ((x ≠ 0 ∧ e = .returned (.tuple #[.pointer none, .int .i64 x])) ∨ (x = 0 ∧ ∃ dx, e = .returned (.tuple #[.pointer (some ⟨dx, 0, none⟩), .int .i64 0]) ∧ Dx w' w.heap.size dx g L M [])) ∧ Below w.heap.size w w'
set_option maxRecDepth 100000 in
set_option maxHeartbeats 8000000 in
theorem refnew_any (A E : Option Addr) (n c m d : Nat) (g : Int) (L M : List ByteArray) (w : World) (hA : Row w A (texts L)) (hB : Row w E (texts M)) (hn : n = L.length) (hm : m = M.length) (hnc : n ≤ c) (hmd : m ≤ d) (ha : A = none → c = 0) (hb : E = none → d = 0)
    (hL : ∀ s ∈ L, s.size ≤ 9223372036854775807) (hM : ∀ s ∈ M, s.size ≤ 9223372036854775807) (hn2 : n ≤ 20) (hm2 : m ≤ 20) (x : Int) (hx : newE L M g x) :
    Calls Tryz.prog 15 #[.agg #[.slice A n c, .slice E m d], .int .i64 g] w (RNewPost w g L M x) := by
  obtain ⟨r, hr⟩ := bool_of (rightP L M)
  obtain ⟨W0, hW0⟩ : ∃ W0, W0 = w.alloc (.cells #[.slice A n c, .slice E m d] 24) := ⟨_, rfl⟩
  have hb0 : Below w.heap.size w W0 := by rw [hW0]; exact bpush (Below.refl _ _) _
  have HRT := Lib.hid (refright_any A E n c m d L M W0 (hA.keep (Nat.le_refl _) hb0) (hB.keep (Nat.le_refl _) hb0) hn hm hnc hmd ha hb hL hM hn2 (by omega) r hr)
  have HR := Lib.hid hr
  have HX := Lib.hid hx
  have HW0 := Lib.hid hW0
  have HB0 := Lib.hid hb0
  have HN := Lib.hid hn
  have HM := Lib.hid hm
  have s0 : W0.cell? ⟨w.heap.size, 0, none⟩ = some (.slice A n c) := by rw [hW0]; exact cell_made rfl rfl
  have s1 : W0.cell? ⟨w.heap.size, 1, none⟩ = some (.slice E m d) := by rw [hW0]; exact cell_made rfl rfl
  clear hA hB hn hm hnc hmd ha hb hL hM hr hx hW0 hb0
  go_enter Tryz.func15, Tryz.ntmps15
  go_upto_region 1 with fail
  rw [← HW0.out]
  clear HW0
  go_upto_region 2 with (go_at_call 9; refine HRT.out.mono ?_; rintro e w1 ⟨rfl, hb1⟩)
  have HBB := Lib.hid (bthen HB0.out hb1)
  have s0 := cell_on hb1 s0
  have s1 := cell_on hb1 s1
  clear hb1 HRT
  cases r with
  | false =>
    have hnr : ¬ rightP L M := fun h => by have := HR.out.2 h; cases this
    have hx1 : x = 101 := by rcases HX.out with ⟨_, h⟩ | ⟨h, _⟩ | ⟨h, _⟩; exact h; exact absurd h hnr; exact absurd h hnr
    subst hx1
    clear hnr HX HR
    go_wp2_with fail
    refine bodyPost_ret (v := .tuple #[.pointer none, .int .i64 101]) (by simp [results, Tryz.results15, go_sem]) rfl ?_
    exact ⟨.inl ⟨by decide, rfl⟩, HBB.out⟩
  | true =>
    have HRP := Lib.hid (HR.out.1 rfl)
    by_cases hg : okGran g
    case neg =>
      have hx1 : x = 111 := by rcases HX.out with ⟨h, _⟩ | ⟨_, _, h⟩ | ⟨_, h, _⟩; exact absurd HRP.out h; exact h; exact absurd h hg
      subst hx1
      have HGR := Lib.hid (fun W => rright_no g W hg)
      clear HX HR hg
      go_wp2_with (go_at_call 37; refine (HGR.out _).mono ?_; rintro e w2 ⟨rfl, rfl⟩)
      refine bodyPost_ret (v := .tuple #[.pointer none, .int .i64 111]) (by simp [results, Tryz.results15, go_sem]) rfl ?_
      exact ⟨.inl ⟨by decide, rfl⟩, HBB.out⟩
    case pos =>
    have hx1 : x = 0 := by rcases HX.out with ⟨h, _⟩ | ⟨_, h, _⟩ | ⟨_, _, h⟩; exact absurd HRP.out h; exact absurd hg h; exact h
    subst hx1
    have HGR := Lib.hid (fun W => rright_yes g W hg)
    clear HX HR hg
    go_wp2_with (go_at_call 37; refine (HGR.out _).mono ?_; rintro e w2 ⟨rfl, rfl⟩)
    refine bodyPost_ret (v := .tuple #[.pointer (some ⟨w1.heap.size, 0, none⟩), .int .i64 0]) (by simp [results, Tryz.results15, go_sem]) rfl ?_
    refine ⟨.inr ⟨rfl, w1.heap.size, rfl, ?_⟩, bthen HBB.out (bpush (Below.refl _ _) _)⟩
    exact ⟨⟨A, n, c, E, m, d, none, 0, [], Blk.new _ _ _, HN.out, HM.out, Nat.le_refl _, fun _ => rfl, rfl, ⟨.inl rfl, fun z hz => by cases hz⟩⟩, HBB.out.size⟩
set_option maxRecDepth 100000 in
set_option maxHeartbeats 8000000 in
theorem refcount_any {w : World} {C dx q : Nat} {g : Int} {L M : List ByteArray} {V : List RV} (h : Dx w C dx g L M V) (hO : ∀ a ∈ V, OkR q a) (hn : V.length ≤ 1000000) : Calls Tryz.prog 23 #[.pointer (some ⟨dx, 0, none⟩)] w fun e w' => e = .returned (.int .i64 (sumC V)) ∧ w' = w := by
  obtain ⟨A, n, c, E, m, d, R, k, Z, h1, h2, h3, h4, h5, h6, h7⟩ := h.blk
  obtain ⟨l, hl⟩ : ∃ l, l = V.length := ⟨_, rfl⟩
  have hn2 : l ≤ 1000000 := by omega
  have c3 : w.cell? ⟨dx, 3, none⟩ = some (.slice R l k) := by rw [hl]; exact blk_get h1 rfl
  have HZ := Lib.hid h7
  have HL := Lib.hid hl
  have H6 := Lib.hid h6
  have HO := Lib.hid hO
  obtain ⟨s, hs⟩ : ∃ s, s = sumC V := ⟨_, rfl⟩
  rw [← hs]
  have HS := Lib.hid hs
  clear h h1 h2 h3 h4 h5 h6 h7 hl hn hO hs
  go_enter Tryz.func23, Tryz.ntmps23
  go_wp2_with fail
  go_loopw [3, 4] (fun v3 v4 wr => ∃ (i : Nat) (u : Int), v3 = .int .i64 u ∧ v4 = .int .i64 (i : Int) ∧ i ≤ l ∧ Hid (u = sumC (V.take i)) ∧ 0 ≤ u ∧ u ≤ 1048576 * (i : Int) ∧ wr = w) (fun _ v4 _ => l - (intOf v4).toNat)
  case atStart => exact ⟨0, 0, rfl, rfl, Nat.zero_le _, Lib.hid (by simp [sumC]), by omega, by omega, rfl⟩
  case round =>
    obtain ⟨i, u, rfl, rfl, hi, HU, hu0, hu1, rfl⟩ := hrel
    by_cases hlt : i < l
    case neg =>
      have hki : ¬ ((i : Int) < (l : Int)) := by omega
      have hus : u = s := by rw [HU.out, HS.out, List.take_of_length_le (by have := HL.out; omega)]
      subst hus
      clear hlt
      go_wp2_with fail
      go_ret
      exact ⟨rfl, rfl⟩
    case pos =>
    have hki : (i : Int) < (l : Int) := by omega
    have hk0 : (0 : Int) ≤ (i : Int) := by omega
    have hiV : i < V.length := by have := HL.out; omega
    have hiZ : i < Z.length := by have := H6.out; rw [← this, List.length_map] at hiV; exact hiV
    obtain ⟨b, off, rfl, k0, k1, k2, k3⟩ := HZ.out.at hiZ
    obtain ⟨y, hy⟩ : ∃ y, y = Z[i].2.count := ⟨_, rfl⟩
    rw [← hy] at k2
    have hyV : y = V[i].count := by rw [hy]; have e := H6.out; subst e; simp
    have hok := HO.out V[i] (List.getElem_mem _)
    have hy0 : 0 ≤ y := by rw [hyV]; exact hok.lo
    have hy1 : y ≤ 1048576 := by rw [hyV]; exact hok.hi
    have HU2 := Lib.hid (show u + y = sumC (V.take (i + 1)) by rw [take_snoc V i hiV, sumC_app, HU.out, hyV, sumC_cons, sumC_nil, Int.add_zero])
    have jw : IntKind.i64.wrap (u + y) = u + y := IntWalk.i64_in _ (by omega)
    have HLT := Lib.hid hlt
    clear hy hyV hok k0 k1 k3 hlt hiV hiZ
    go_wp2_with fail
    go_roundw
    case rel => exact ⟨i + 1, u + y, rfl, by go_num, by have := HLT.out; omega, HU2, by omega, by omega, by first | rfl | trivial⟩
    case measure => have := HLT.out; simp [intOf]; omega
end Go.Proofs.YtmmeekmiildliaaGreatDoor
