/- Arguments opened where their bulk is small: a filter, a query, a manifest. -/
import Derived.Test.YtgaallkdfcckpaaFY
import Derived.Test.YtgaallkdfcckpaaSN
namespace Go.Proofs.Ytgaallkdfcckpaa
open Go.ChangeShapes Go.WideShapes Go.ChangeAt Go.RowKit Go.Joins Go.Maps Go.Lib Go.Shelf
set_option linter.unusedSimpArgs false
set_option linter.unusedVariables false
set_option maxRecDepth 100000
section
variable {H : Type}
theorem blk1 (d : DataW H) : 0 < Rows.uptoBulk d := by
  rcases d with l | _ | _ | _ | _ | _ | _ | _
  case lit => cases l <;> simp [Rows.uptoBulk]
  all_goals (simp only [Rows.uptoBulk]; omega)
theorem blkApp : ∀ l r : List (DataW H), Rows.uptoBulkAll (l ++ r) = Rows.uptoBulkAll l + Rows.uptoBulkAll r
  | [], r => by simp [Rows.uptoBulkAll]
  | x :: l, r => by rw [List.cons_append, Rows.uptoBulkAll, Rows.uptoBulkAll, blkApp l r, Nat.add_assoc]
theorem blkMem : ∀ (l : List (DataW H)) {d : DataW H}, d ∈ l → Rows.uptoBulk d ≤ Rows.uptoBulkAll l
  | x :: l, d, h => by
    rw [Rows.uptoBulkAll]
    rcases List.mem_cons.1 h with rfl | h
    · omega
    · have := blkMem l h; omega
theorem blkTimes (m : Nat) : ∀ l : List (DataW H), (∀ d ∈ l, m ≤ Rows.uptoBulk d) → l.length * m ≤ Rows.uptoBulkAll l
  | [], _ => by simp [Rows.uptoBulkAll]
  | x :: l, h => by
    rw [Rows.uptoBulkAll, List.length_cons, Nat.succ_mul]
    have h1 := h x (List.mem_cons_self ..)
    have h2 := blkTimes m l (fun d hd => h d (List.mem_cons_of_mem _ hd))
    omega
theorem blkLen (l : List (DataW H)) : l.length ≤ Rows.uptoBulkAll l := by
  have := blkTimes 1 l (fun d _ => blk1 d); omega
variable {enc : TypeId × Value → H} {w : World} {base : Nat} {spare : Nat → Bool} {held : Bool}
theorem slice_blk {t e : TypeId} (ht : Try.prog.underlying t = some (.slice e)) {A : Option Addr} {len cap fuel : Nat} {x : DataW H × List MemPlace} (h : DataW.trod enc Try.prog w base spare held fuel t [.slice A len cap] = some x) : len ≤ Rows.uptoBulk x.1 := by
  rcases DataW.trod_slice ht h with ⟨hcs, _⟩ | ⟨a, len', cap', elems, rest, n, _, hcs, hx, _, _, _, hel, _⟩
  · simp at hcs; omega
  · simp at hcs
    obtain ⟨_, rfl, _⟩ := hcs
    rw [hx]
    show _ ≤ Rows.uptoBulk (.slice (elems.map (·.1)) (rest.map (·.1)))
    have h1 := blkLen (elems.map (·.1))
    rw [List.length_map, hel] at h1
    simp only [Rows.uptoBulk]
    omega
theorem rows_ofB {α : Type} (en : α → List Value) (W : Nat) (hW : ∀ x, (en x).length = W) (h0 : 0 < W) {t e : TypeId} (ht : Try.prog.underlying t = some (.slice e)) (hC : Try.prog.cellsOf e = W) (Q : α → Prop)
    {v : Value} {fuel : Nat} {x : DataW H × List MemPlace} (h : DataW.trod enc Try.prog w base spare held fuel t [v] = some x) (hwt : Rows.uptoBulk x.1 ≤ 1048576)
    (each : ∀ n' cs' y, n' < fuel → DataW.trod enc Try.prog w base spare held n' e cs' = some y → Rows.uptoBulk y.1 ≤ 1048576 → ∃ a, cs' = en a ∧ Q a) :
    ∃ (L : List α) (A : Option Addr) (n c : Nat), v = .slice A n c ∧ Row w A (L.flatMap en) ∧ n = L.length ∧ n ≤ c ∧ c ≤ 9223372036854775807 ∧ (∀ a ∈ L, Q a) ∧ (A = none → c = 0) := by
  rcases DataW.trod_slice ht h with ⟨hcs, _⟩ | ⟨a, len, cap, elems, rest, n, hfu, hcs, hx, _, hl, hm, hel, hi, _, _⟩
  · simp at hcs
    exact ⟨[], none, 0, 0, hcs, .inl rfl, rfl, by omega, by omega, (fun z hz => by cases hz), fun _ => rfl⟩
  · simp at hcs
    rw [hC] at hi
    obtain ⟨L, hL, hp⟩ := list_of (p := fun i (b : α) => w.cells? base (a.add (i * W)) W = some (en b) ∧ Q b) len (fun i hil => by
      have h1 := hi i hil
      rw [List.getElem?_eq_getElem (by omega)] at h1
      obtain ⟨cs', h2, h3⟩ := Option.bind_eq_some_iff.1 h1
      obtain ⟨b, e1, e2⟩ := each n cs' _ (by omega) h3 (by
        have h5 := blkMem (elems.map (·.1)) (d := (elems[i]'(by omega)).1) (List.mem_map.2 ⟨_, List.getElem_mem _, rfl⟩)
        have hb : Rows.uptoBulkAll (elems.map (·.1)) ≤ Rows.uptoBulk x.1 := by rw [hx]; simp only [Rows.uptoBulk]; omega
        omega)
      exact ⟨b, by rw [h2, e1], e2⟩)
    refine ⟨L, some a, len, cap, hcs, ?_, hL.symm, hl, by unfold maxLen at hm; omega, ?_, fun h => by cases h⟩
    · rcases Nat.eq_zero_or_pos len with h00 | h00
      · exact .inl (by rw [List.eq_nil_of_length_eq_zero (by omega : L.length = 0)]; rfl)
      · have hs : a.spot = none := by
          obtain ⟨_, hcl, hat⟩ := World.cells?_some (hp 0 (by omega)).1
          have h1 := hat 0 h0
          rw [List.getElem?_eq_getElem (by omega)] at h1
          have h2 := World.cell?_spot h1
          obtain ⟨b, off, spot⟩ := a
          simpa [Addr.add] using h2
        refine .inr ⟨a.block, a.off, by obtain ⟨b, off, spot⟩ := a; simp only at hs; subst hs; rfl, fun j u hu => ?_⟩
        have hlen := flat_len en W hW L
        have hjl : j < L.length * W := by
          rcases Nat.lt_or_ge j (L.length * W) with h | h
          · exact h
          · rw [List.getElem?_eq_none (by rw [hlen]; exact h)] at hu; cases hu
        have hk : j / W < L.length := Nat.div_lt_of_lt_mul (by rw [Nat.mul_comm]; exact hjl)
        have hmod : j % W < W := Nat.mod_lt _ h0
        obtain ⟨_, hcl, hat⟩ := World.cells?_some (hp (j / W) hk).1
        have h1 := hat (j % W) hmod
        rw [add_add' a _ _ hs] at h1
        have h2 := flat_get en W hW L (j / W) hk (j % W) (en L[j / W])[j % W] (by rw [List.getElem?_eq_getElem (by rw [hW]; exact hmod)])
        have e1 : j / W * W + j % W = j := by rw [Nat.mul_comm]; exact Nat.div_add_mod j W
        rw [e1, hu] at h2
        rw [Nat.add_assoc, e1] at h1
        rw [h1, List.getElem?_eq_getElem (by rw [hW]; exact hmod)]
        exact h2.symm
    · intro z hz
      obtain ⟨i, hi', rfl⟩ := List.getElem_of_mem hz
      exact (hp i hi').2
theorem filter_openedB : ∀ (fuel : Nat) (cs : List Value) (x : DataW H × List MemPlace), DataW.trod enc Try.prog w base spare held fuel 39 cs = some x → Rows.uptoBulk x.1 ≤ 1048576 → ∃ f : FT, cs = f.enc ∧ FIn w f := by
  intro fuel
  induction fuel using Nat.strongRecOn with
  | ind fuel ih =>
  intro cs x h hwt
  obtain ⟨xs, n, rfl, hx, hcl, hlen, hf⟩ := DataW.trod_struct Try.underlying39 h
  have k29 : Try.prog.cellsOf 39 = 4 := by kernel_rfl
  have k26 : Try.prog.cellsOf 36 = 1 := by kernel_rfl
  have k9 : Try.prog.cellsOf 9 = 1 := by kernel_rfl
  have k27 : Try.prog.cellsOf 37 = 1 := by kernel_rfl
  rw [k29] at hcl
  match xs, hlen with
  | [y0, y1, y2, y3], _ =>
  match cs, hcl with
  | [c0, c1, c2, c3], _ =>
  have g0 := hf 0 _ rfl
  have g1 := hf 1 _ rfl
  have g2 := hf 2 _ rfl
  have g3 := hf 3 _ rfl
  simp [k26, k9, k27] at g0 g1 g2 g3
  obtain ⟨op, e0, -, -⟩ := DataW.trod_int Try.underlying36 g0
  obtain ⟨s1, e1, d1, m1⟩ := DataW.trod_string Try.underlying9 g1
  obtain ⟨s2, e2, d2, m2⟩ := DataW.trod_string Try.underlying9 g2
  simp at e0 e1 e2
  subst e0 e1 e2
  have hb : Rows.uptoBulk x.1 = Rows.uptoBulkAll ([y0, y1, y2, y3].map (·.1)) + 1 := by rw [hx]; simp only [Rows.uptoBulk]
  have b1 := blkMem ([y0, y1, y2, y3].map (·.1)) (d := y1.1) (by simp)
  have b2 := blkMem ([y0, y1, y2, y3].map (·.1)) (d := y2.1) (by simp)
  have b3 := blkMem ([y0, y1, y2, y3].map (·.1)) (d := y3.1) (by simp)
  have z1 : s1.size ≤ 140737488355328 := by
    have e : Rows.uptoBulk y1.1 = s1.data.size + 1 := by rw [d1]; simp [Rows.uptoBulk]
    show s1.data.size ≤ 140737488355328
    omega
  have z2 : s2.size ≤ 140737488355328 := by
    have e : Rows.uptoBulk y2.1 = s2.data.size + 1 := by rw [d2]; simp [Rows.uptoBulk]
    show s2.data.size ≤ 140737488355328
    omega
  obtain ⟨L, A, m, c, rfl, hrow, hm, hmc, hc, hL, -⟩ := rows_ofB FT.enc 4 (fun _ => rfl) (by omega) Try.underlying37 k29 (FIn w) g3 (by omega) (fun n' cs' y hn' hy hyw => ih n' (by omega) cs' y hy hyw)
  exact ⟨.mk op s1 s2 A m c L, rfl, FIn.of ⟨hrow, hm, hmc, by show m ≤ _; omega, z1, z2⟩ hL⟩
theorem query_openedB {r : Reach} {b0 : Nat} {v : Value} {d : DataW H} {p : List MemPlace} (hv : Value.okWide Try.prog w r b0 42 v) (h : DataW.Trod enc Try.prog w base spare held 42 v d p) (hwt : Rows.uptoBulk d ≤ 1048576) :
    ∃ q : QZ, v = .agg (qc q) ∧ QIn w q := by
  obtain ⟨cs, rfl, hsz⟩ := okWide_struct Try.underlying42 hv
  obtain ⟨fuel, hfu⟩ := h
  have hcs : (Value.agg cs).cells.toList = cs.toList := rfl
  rw [hcs] at hfu
  obtain ⟨xs, n, rfl, hx, hcl, hlen, hf⟩ := DataW.trod_struct Try.underlying42 hfu
  have k32 : Try.prog.cellsOf 42 = 12 := by kernel_rfl
  have k25 : Try.prog.cellsOf 35 = 1 := by kernel_rfl
  have k3 : Try.prog.cellsOf 3 = 1 := by kernel_rfl
  have k22 : Try.prog.cellsOf 22 = 1 := by kernel_rfl
  have k29 : Try.prog.cellsOf 39 = 4 := by kernel_rfl
  have k30 : Try.prog.cellsOf 40 = 1 := by kernel_rfl
  have k47 : Try.prog.cellsOf 63 = 2 := by kernel_rfl
  have k61 : Try.prog.cellsOf 108 = 4 := by kernel_rfl
  rw [k32] at hcl
  obtain ⟨l, hl⟩ : ∃ l, l = cs.toList := ⟨_, rfl⟩
  rw [← hl] at hcl hf
  match xs, hlen with
  | [y0, y1, y2, y3, y4, y5, y6, y7, y8], _ =>
  match l, hcl with
  | [c0, c1, c2, c3, c4, c5, c6, c7, c8, c9, c10, c11], _ =>
  have g0 := hf 0 _ rfl
  have g1 := hf 1 _ rfl
  have g2 := hf 2 _ rfl
  have g3 := hf 3 _ rfl
  have g4 := hf 4 _ rfl
  have g5 := hf 5 _ rfl
  have g6 := hf 6 _ rfl
  have g7 := hf 7 _ rfl
  have g8 := hf 8 _ rfl
  simp [k25, k3, k22, k29, k30] at g0 g1 g2 g3 g4 g5 g6 g7 g8
  have hdx : d = DataW.agg [y0.1, y1.1, y2.1, y3.1, y4.1, y5.1, y6.1, y7.1, y8.1] := congrArg Prod.fst hx
  have hb : Rows.uptoBulk d = Rows.uptoBulkAll [y0.1, y1.1, y2.1, y3.1, y4.1, y5.1, y6.1, y7.1, y8.1] + 1 := by rw [hdx]; simp only [Rows.uptoBulk]
  have b0 := blkMem [y0.1, y1.1, y2.1, y3.1, y4.1, y5.1, y6.1, y7.1, y8.1] (d := y0.1) (by simp)
  have b5 := blkMem [y0.1, y1.1, y2.1, y3.1, y4.1, y5.1, y6.1, y7.1, y8.1] (d := y5.1) (by simp)
  have b6 := blkMem [y0.1, y1.1, y2.1, y3.1, y4.1, y5.1, y6.1, y7.1, y8.1] (d := y6.1) (by simp)
  obtain ⟨T, tA, tn, tc, rfl, t1, t2, t3, t4, -, -⟩ := rows_ofB encTm 2 (fun _ => rfl) (by omega) Try.underlying35 k47 (fun _ => True) g0 (by omega) (fun n' cs' y hn' hy hyw => by
    obtain ⟨t, ht⟩ := term_opened hy
    exact ⟨t, ht, trivial⟩)
  obtain ⟨frm, e1, -, -⟩ := DataW.trod_int Try.underlying3 g1
  obtain ⟨upto, e2, -, -⟩ := DataW.trod_int Try.underlying3 g2
  obtain ⟨every, e3, -, -⟩ := DataW.trod_int Try.underlying3 g3
  obtain ⟨BY, bA, bn, bc, rfl, b1, b2, b3, b4, b5, b6⟩ := strs_opened g4
  obtain ⟨f, e5, hfi⟩ := filter_openedB _ _ _ g5 (by omega)
  obtain ⟨HH, hA, hn, hc, rfl, h1, h2, h3, h4, -, -⟩ := rows_ofB encHv 4 (fun _ => rfl) (by omega) Try.underlying40 k61 (fun _ => True) g6 (by omega) (fun n' cs' y hn' hy hyw => by
    obtain ⟨t, ht⟩ := having_opened hy
    exact ⟨t, ht, trivial⟩)
  obtain ⟨order, e7, -, -⟩ := DataW.trod_int Try.underlying3 g7
  obtain ⟨limit, e8, -, -⟩ := DataW.trod_int Try.underlying3 g8
  simp [FT.enc] at e1 e2 e3 e5 e7 e8
  obtain ⟨rfl, rfl, rfl, rfl⟩ := e5
  subst e1 e2 e3 e7 e8
  refine ⟨⟨tA, tn, tc, T, frm, upto, every, bA, bn, bc, BY, f, hA, hn, hc, HH, order, limit⟩, ?_, ?_⟩
  · rw [← Array.toArray_toList (xs := cs), ← hl]; rfl
  · exact ⟨⟨b1, b2, b3, b6, by show bn ≤ _; omega⟩, hfi, t1, t2, t3, by show tn ≤ _; omega, h1, h2, h3, by show hn ≤ _; omega⟩
theorem flat_one {α β : Type} (f : α → β) : ∀ L : List α, (L.flatMap fun x => [f x]) = L.map f
  | [] => rfl
  | x :: L => by rw [List.flatMap_cons, flat_one f L]; rfl
theorem ints_openedB {fuel : Nat} {v : Value} {x : DataW H × List MemPlace} (h : DataW.trod enc Try.prog w base spare held fuel 29 [v] = some x) (hb : Rows.uptoBulk x.1 ≤ 1048576) : ∃ (L : List Int) (A : Option Addr) (n c : Nat), v = .slice A n c ∧ Row w A (L.map (Value.int .i64)) ∧ n = L.length ∧ n ≤ c ∧ c ≤ 9223372036854775807 := by
  obtain ⟨L, A, n, c, rfl, h1, h2, h3, h4, -, -⟩ := rows_ofB (fun k : Int => [Value.int .i64 k]) 1 (fun _ => rfl) (by omega) Try.underlying29 (by kernel_rfl) (fun _ => True) h hb (fun n' cs' y hn' hy hyw => by
    obtain ⟨k, e, -, -⟩ := DataW.trod_int Try.underlying3 hy
    exact ⟨k, e, trivial⟩)
  rw [flat_one] at h1
  exact ⟨L, A, n, c, rfl, h1, h2, h3, h4⟩
theorem tier_opened {n : Nat} {cs : List Value} {x : DataW H × List MemPlace} (h : DataW.trod enc Try.prog w base spare held n 60 cs = some x) : ∃ z : TZ, cs = encTZ z ∧ StrsIn w z.A z.n z.c z.D := by
  obtain ⟨xs, n, rfl, hx, hcl, hlen, hf⟩ := DataW.trod_struct Try.underlying60 h
  have k : Try.prog.cellsOf 60 = 3 := by kernel_rfl
  have k3 : Try.prog.cellsOf 3 = 1 := by kernel_rfl
  have k22 : Try.prog.cellsOf 22 = 1 := by kernel_rfl
  rw [k] at hcl
  match xs, hlen with
  | [y0, y1, y2], _ =>
  match cs, hcl with
  | [c0, c1, c2], _ =>
  have g0 := hf 0 _ rfl
  have g1 := hf 1 _ rfl
  have g2 := hf 2 _ rfl
  simp [k3, k22] at g0 g1 g2
  obtain ⟨a, e0, -, -⟩ := DataW.trod_int Try.underlying3 g0
  obtain ⟨b, e1, -, -⟩ := DataW.trod_int Try.underlying3 g1
  obtain ⟨L, A, m, c, rfl, p1, p2, p3, p4, p5, p6⟩ := strs_opened g2
  simp at e0 e1
  subst e0 e1
  exact ⟨⟨a, b, A, m, c, L⟩, rfl, ⟨p1, p2, p3, p6, by show m ≤ _; omega⟩⟩
theorem proj_opened {n : Nat} {cs : List Value} {x : DataW H × List MemPlace} (h : DataW.trod enc Try.prog w base spare held n 51 cs = some x) : ∃ z : TZ, cs = encTZ z ∧ StrsIn w z.A z.n z.c z.D := by
  obtain ⟨xs, n, rfl, hx, hcl, hlen, hf⟩ := DataW.trod_struct Try.underlying51 h
  have k : Try.prog.cellsOf 51 = 3 := by kernel_rfl
  have k3 : Try.prog.cellsOf 3 = 1 := by kernel_rfl
  have k22 : Try.prog.cellsOf 22 = 1 := by kernel_rfl
  rw [k] at hcl
  match xs, hlen with
  | [y0, y1, y2], _ =>
  match cs, hcl with
  | [c0, c1, c2], _ =>
  have g0 := hf 0 _ rfl
  have g1 := hf 1 _ rfl
  have g2 := hf 2 _ rfl
  simp [k3, k22] at g0 g1 g2
  obtain ⟨a, e0, -, -⟩ := DataW.trod_int Try.underlying3 g0
  obtain ⟨b, e1, -, -⟩ := DataW.trod_int Try.underlying3 g1
  obtain ⟨L, A, m, c, rfl, p1, p2, p3, p4, p5, p6⟩ := strs_opened g2
  simp at e0 e1
  subst e0 e1
  exact ⟨⟨a, b, A, m, c, L⟩, rfl, ⟨p1, p2, p3, p6, by show m ≤ _; omega⟩⟩
theorem stored_opened {n : Nat} {cs : List Value} {x : DataW H × List MemPlace} (h : DataW.trod enc Try.prog w base spare held n 57 cs = some x) : ∃ z : SZ, cs = encSZ z ∧ z.name.size ≤ 9223372036854775807 := by
  obtain ⟨xs, n, rfl, hx, hcl, hlen, hf⟩ := DataW.trod_struct Try.underlying57 h
  have k : Try.prog.cellsOf 57 = 4 := by kernel_rfl
  have k3 : Try.prog.cellsOf 3 = 1 := by kernel_rfl
  have k9 : Try.prog.cellsOf 9 = 1 := by kernel_rfl
  rw [k] at hcl
  match xs, hlen with
  | [y0, y1, y2, y3], _ =>
  match cs, hcl with
  | [c0, c1, c2, c3], _ =>
  have g0 := hf 0 _ rfl
  have g1 := hf 1 _ rfl
  have g2 := hf 2 _ rfl
  have g3 := hf 3 _ rfl
  simp [k3, k9] at g0 g1 g2 g3
  obtain ⟨s, e0, -, m0⟩ := DataW.trod_string Try.underlying9 g0
  obtain ⟨b, e1, -, -⟩ := DataW.trod_int Try.underlying3 g1
  obtain ⟨c, e2, -, -⟩ := DataW.trod_int Try.underlying3 g2
  obtain ⟨d, e3, -, -⟩ := DataW.trod_int Try.underlying3 g3
  simp at e0 e1 e2 e3
  subst e0 e1 e2 e3
  exact ⟨⟨s, b, c, d⟩, rfl, by unfold maxLen at m0; exact m0⟩
def mcz (m : MZ) : Array Value := #[.slice m.dA m.dn m.dc, .slice m.mA m.mn m.mc, .slice m.p.tA m.p.tn m.p.tc, .slice m.p.jA m.p.jn m.p.jc, .int .i64 m.p.hor, .int .i64 m.now, .slice m.eA m.en m.ec, .int .i64 m.cnt, .slice m.sA m.sn m.sc, .slice m.fA m.fn m.fc, .string m.jr, .int .i64 m.nxt]
set_option maxHeartbeats 4000000 in
theorem manifest_openedB {r : Reach} {b0 : Nat} {v : Value} {d : DataW H} {p : List MemPlace} (hv : Value.okWide Try.prog w r b0 34 v) (h : DataW.Trod enc Try.prog w base spare held 34 v d p) (hwt : Rows.uptoBulk d ≤ 1048576) :
    ∃ m : MZ, v = .agg (mcz m) ∧ MIn w m ∧ m.dn ≤ 1100000 ∧ m.mn ≤ 1100000 ∧ (∀ s ∈ m.D, s.size ≤ 9223372036854775807) ∧ (∀ s ∈ m.M, s.size ≤ 9223372036854775807) := by
  obtain ⟨cs, rfl, hsz⟩ := okWide_struct Try.underlying34 hv
  obtain ⟨fuel, hfu⟩ := h
  have hcs : (Value.agg cs).cells.toList = cs.toList := rfl
  rw [hcs] at hfu
  obtain ⟨xs, n, rfl, hx, hcl, hlen, hf⟩ := DataW.trod_struct Try.underlying34 hfu
  have k34 : Try.prog.cellsOf 34 = 12 := by kernel_rfl
  have k24 : Try.prog.cellsOf 24 = 2 := by kernel_rfl
  have k28 : Try.prog.cellsOf 28 = 3 := by kernel_rfl
  have k31 : Try.prog.cellsOf 31 = 2 := by kernel_rfl
  have k3 : Try.prog.cellsOf 3 = 1 := by kernel_rfl
  have k9 : Try.prog.cellsOf 9 = 1 := by kernel_rfl
  have k29 : Try.prog.cellsOf 29 = 1 := by kernel_rfl
  have k32 : Try.prog.cellsOf 32 = 1 := by kernel_rfl
  have k22 : Try.prog.cellsOf 22 = 1 := by kernel_rfl
  have k25 : Try.prog.cellsOf 25 = 1 := by kernel_rfl
  have k26 : Try.prog.cellsOf 26 = 1 := by kernel_rfl
  rw [k34] at hcl
  obtain ⟨l, hl⟩ : ∃ l, l = cs.toList := ⟨_, rfl⟩
  rw [← hl] at hcl hf
  match xs, hlen with
  | [y0, y1, y2, y3, y4, y5, y6, y7], _ =>
  match l, hcl with
  | [c0, c1, c2, c3, c4, c5, c6, c7, c8, c9, c10, c11], _ =>
  have g0 := hf 0 _ rfl
  have g1 := hf 1 _ rfl
  have g2 := hf 2 _ rfl
  have g3 := hf 3 _ rfl
  have g4 := hf 4 _ rfl
  have g5 := hf 5 _ rfl
  have g6 := hf 6 _ rfl
  have g7 := hf 7 _ rfl
  simp [k24, k28, k31, k3, k9, k29, k32] at g0 g1 g2 g3 g4 g5 g6 g7
  have hdx : d = DataW.agg [y0.1, y1.1, y2.1, y3.1, y4.1, y5.1, y6.1, y7.1] := congrArg Prod.fst hx
  have hb : Rows.uptoBulk d = Rows.uptoBulkAll [y0.1, y1.1, y2.1, y3.1, y4.1, y5.1, y6.1, y7.1] + 1 := by rw [hdx]; simp only [Rows.uptoBulk]
  have b0 := blkMem [y0.1, y1.1, y2.1, y3.1, y4.1, y5.1, y6.1, y7.1] (d := y0.1) (by simp)
  have b1 := blkMem [y0.1, y1.1, y2.1, y3.1, y4.1, y5.1, y6.1, y7.1] (d := y1.1) (by simp)
  have b3 := blkMem [y0.1, y1.1, y2.1, y3.1, y4.1, y5.1, y6.1, y7.1] (d := y3.1) (by simp)
  have b4 := blkMem [y0.1, y1.1, y2.1, y3.1, y4.1, y5.1, y6.1, y7.1] (d := y4.1) (by simp)
  have b5 := blkMem [y0.1, y1.1, y2.1, y3.1, y4.1, y5.1, y6.1, y7.1] (d := y5.1) (by simp)
  obtain ⟨x0, n0, -, hx0, -, hl0, hf0⟩ := DataW.trod_struct Try.underlying24 g0
  match x0, hl0 with
  | [z0, z1], _ =>
  have f00 := hf0 0 _ rfl
  have f01 := hf0 1 _ rfl
  simp [k22] at f00 f01
  have hb0 : Rows.uptoBulk y0.1 = Rows.uptoBulkAll [z0.1, z1.1] + 1 := by rw [hx0]; simp only [Rows.uptoBulk, List.map_cons, List.map_nil]
  have b00 := blkMem [z0.1, z1.1] (d := z0.1) (by simp)
  have b01 := blkMem [z0.1, z1.1] (d := z1.1) (by simp)
  obtain ⟨D, dA, dn, dc, rfl, d1, d2, d3, d4, d5, d6⟩ := strs_opened f00
  obtain ⟨M, mA, mn, mc, rfl, m1, m2, m3, m4, m5, m6⟩ := strs_opened f01
  have dnb := slice_blk Try.underlying22 f00
  have mnb := slice_blk Try.underlying22 f01
  obtain ⟨x1, n1, -, hx1, -, hl1, hf1⟩ := DataW.trod_struct Try.underlying28 g1
  match x1, hl1 with
  | [u0, u1, u2], _ =>
  have f10 := hf1 0 _ rfl
  have f11 := hf1 1 _ rfl
  have f12 := hf1 2 _ rfl
  simp [k25, k26, k3] at f10 f11 f12
  have hb1 : Rows.uptoBulk y1.1 = Rows.uptoBulkAll [u0.1, u1.1, u2.1] + 1 := by rw [hx1]; simp only [Rows.uptoBulk, List.map_cons, List.map_nil]
  have b10 := blkMem [u0.1, u1.1, u2.1] (d := u0.1) (by simp)
  have b11 := blkMem [u0.1, u1.1, u2.1] (d := u1.1) (by simp)
  obtain ⟨T, tA, tn, tc, rfl, t1, t2, t3, t4, t5, -⟩ := rows_ofB encTZ 3 (fun _ => rfl) (by omega) Try.underlying25 (by kernel_rfl) (fun z => StrsIn w z.A z.n z.c z.D) f10 (by omega) (fun n' cs' y hn' hy hyw => tier_opened hy)
  obtain ⟨J, jA, jn, jc, rfl, j1, j2, j3, j4, j5, -⟩ := rows_ofB encTZ 3 (fun _ => rfl) (by omega) Try.underlying26 (by kernel_rfl) (fun z => StrsIn w z.A z.n z.c z.D) f11 (by omega) (fun n' cs' y hn' hy hyw => proj_opened hy)
  obtain ⟨hor, e12, -, -⟩ := DataW.trod_int Try.underlying3 f12
  obtain ⟨now, e2, -, -⟩ := DataW.trod_int Try.underlying3 g2
  obtain ⟨E, eA, en, ec, rfl, q1, q2, q3, q4⟩ := ints_openedB g3 (by omega)
  obtain ⟨x4, n4, -, hx4, -, hl4, hf4⟩ := DataW.trod_struct Try.underlying31 g4
  match x4, hl4 with
  | [v0, v1], _ =>
  have f40 := hf4 0 _ rfl
  have f41 := hf4 1 _ rfl
  simp [k3, k29] at f40 f41
  have hb4 : Rows.uptoBulk y4.1 = Rows.uptoBulkAll [v0.1, v1.1] + 1 := by rw [hx4]; simp only [Rows.uptoBulk, List.map_cons, List.map_nil]
  have b41 := blkMem [v0.1, v1.1] (d := v1.1) (by simp)
  obtain ⟨cnt, e40, -, -⟩ := DataW.trod_int Try.underlying3 f40
  obtain ⟨S, sA, sn, sc, rfl, s1, s2, s3, s4⟩ := ints_openedB f41 (by omega)
  obtain ⟨F, fA, fn, fc, rfl, r1, r2, r3, r4, r5, -⟩ := rows_ofB encSZ 4 (fun _ => rfl) (by omega) Try.underlying32 (by kernel_rfl) (fun z => z.name.size ≤ 9223372036854775807) g5 (by omega) (fun n' cs' y hn' hy hyw => stored_opened hy)
  obtain ⟨jr, e6, -, m6'⟩ := DataW.trod_string Try.underlying9 g6
  obtain ⟨nxt, e7, -, -⟩ := DataW.trod_int Try.underlying3 g7
  simp at e12 e2 e40 e6 e7
  subst e12 e2 e40 e6 e7
  refine ⟨⟨dA, dn, dc, D, mA, mn, mc, M, ⟨tA, tn, tc, T, jA, jn, jc, J, hor⟩, now, eA, en, ec, E, cnt, sA, sn, sc, S, fA, fn, fc, F, jr, nxt⟩, ?_, ?_, by show dn ≤ _; omega, by show mn ≤ _; omega, d5, m5⟩
  · rw [← Array.toArray_toList (xs := cs), ← hl]; rfl
  · exact ⟨⟨d1, d2, d3, d6, by show dn ≤ _; omega⟩, ⟨m1, m2, m3, m6, by show mn ≤ _; omega⟩, ⟨⟨t1, t2, t3, by show tn ≤ _; omega, t5⟩, ⟨j1, j2, j3, by show jn ≤ _; omega, j5⟩⟩, q1, q2, by show en ≤ _; omega, s1, s2, by show sn ≤ _; omega, r1, r2, by show fn ≤ _; omega, r5, by unfold maxLen at m6'; exact m6'⟩
end
end Go.Proofs.Ytgaallkdfcckpaa
