/- leaves (26): each condition of a filter is handed to a closure, in order; whatever the closure keeps. -/
import Derived.Test.YtgaallkdfcckpaaFN
namespace Go.Proofs.Ytgaallkdfcckpaa
open Go.RowKit Go.Maps Go.Lib Go.Shelf
set_option linter.unusedSimpArgs false
set_option linter.unusedVariables false
def FT.leaves : FT → List FT := FT.fold fun f l => (if isLeaf f.op then [f] else []) ++ l.flatten
theorem FT.leaves_eq (f : FT) : f.leaves = (if isLeaf f.op then [f] else []) ++ (f.ks.map FT.leaves).flatten := FT.fold_eq _ f
theorem len_take {α : Type} (L P : List α) (D : List (List α)) (k : Nat) : (L ++ (P ++ (D.take k).flatten)).length ≤ (L ++ (P ++ D.flatten)).length := by
  have h2 : D.flatten = (D.take k).flatten ++ (D.drop k).flatten := by rw [← List.flatten_append, List.take_append_drop]
  rw [h2]
  simp only [List.length_append]
  omega
theorem dims_leaves : ∀ f : FT, f.dims = f.leaves.map FT.dim := by
  intro f
  induction f using FT.ind with
  | h f ih =>
    rw [f.dims_eq, f.leaves_eq, List.map_append, List.map_flatten, List.map_map]
    congr 1
    · split <;> rfl
    · congr 1
      exact List.map_congr_left fun k hk => ih k hk
/-- Blocks of filters and of functions stay. -/
structure KeepT (W W' : World) : Prop where
  size : W.heap.size ≤ W'.heap.size
  blk : ∀ g t cs, (t = 39 ∨ t = 99) → Blk W g t cs → Blk W' g t cs
theorem KeepT.refl (W : World) : KeepT W W := ⟨Nat.le_refl _, fun _ _ _ _ h => h⟩
theorem KeepT.trans {A B C : World} (h : KeepT A B) (k : KeepT B C) : KeepT A C := ⟨Nat.le_trans h.size k.size, fun g t cs ht hb => k.blk g t cs ht (h.blk g t cs ht hb)⟩
theorem KeepT.below {A B : World} (h : Below A.heap.size A B) : KeepT A B := ⟨h.size, fun g t cs _ hb => (h.block _ hb.lt).trans hb⟩
structure Taker (g : Nat) (lb : Array Value) (w0 : World) (N : Nat) (I : World → List FT → Prop) : Prop where
  fn : ∀ args w, (callFunc g args).run Try.prog w = .ok (.enter g args) w
  old : ∀ W L, I W L → Below w0.heap.size w0 W
  more : ∀ W W' L, I W L → Below W.heap.size W W' → I W' L
  call : ∀ W L x, L.length < N → I W L → FIn w0 x → Calls Try.prog g (#[.agg #[.int .i64 x.op, .string x.dim, .string x.val, .slice x.A x.n x.c]] ++ lb) W fun e W' => e = .returned (.tuple #[]) ∧ I W' (L ++ [x]) ∧ KeepT W W'
def takeF (g : Nat) (lb : Array Value) : Value := .func (.func g) #[] lb
def walkF (T K : Nat) : Value := .func (.func 73) #[] #[.pointer (some ⟨T, 0, none⟩), .pointer (some ⟨K, 0, none⟩)]
def WalkPost (I : World → List FT → Prop) (W : World) (L : List FT) (e : Ending) (W' : World) : Prop := e = .returned (.tuple #[]) ∧ I W' L ∧ KeepT W W'
set_option maxRecDepth 100000 in
set_option maxHeartbeats 8000000 in
theorem walk51 {g : Nat} {lb : Array Value} {w0 : World} {N : Nat} {I : World → List FT → Prop} (hT : Taker g lb w0 N I) (T Q : Nat) : ∀ (f : FT) (w : World) (L : List FT), FIn w0 f → (L ++ f.leaves).length ≤ N → I w L → Blk w T 99 #[takeF g lb] → Blk w Q 99 #[walkF T Q] →
    Calls Try.prog 73 #[.agg #[.int .i64 f.op, .string f.dim, .string f.val, .slice f.A f.n f.c], .pointer (some ⟨T, 0, none⟩), .pointer (some ⟨Q, 0, none⟩)] w (WalkPost I w (L ++ f.leaves)) := by
  intro f
  induction f using FT.ind with
  | h f ih =>
  intro w L hf hLN hI hBT hBQ
  have HTK := Lib.hid hT
  obtain ⟨w1, hw1⟩ : ∃ w1, w1 = w.alloc (.cells #[.int .i64 f.op, .string f.dim, .string f.val, .slice f.A f.n f.c] 39) := ⟨_, rfl⟩
  have hb1 : Below w.heap.size w w1 := by rw [hw1]; exact bpush (Below.refl _ _) _
  have hk1 : Blk w1 w.heap.size 39 #[.int .i64 f.op, .string f.dim, .string f.val, .slice f.A f.n f.c] := by rw [hw1]; exact Blk.new _ _ _
  have hI1 : I w1 L := hT.more _ _ _ hI hb1
  have hBT1 := (KeepT.below hb1).blk _ _ _ (.inr rfl) hBT
  have hBQ1 := (KeepT.below hb1).blk _ _ _ (.inr rfl) hBQ
  obtain ⟨P, hP⟩ : ∃ P, P = (if isLeaf f.op then [f] else []) := ⟨_, rfl⟩
  obtain ⟨D, hD⟩ : ∃ D, D = f.ks.map FT.leaves := ⟨_, rfl⟩
  have hde : f.leaves = P ++ D.flatten := by rw [hD, f.leaves_eq, hP]
  obtain ⟨G, hG⟩ : ∃ G, G = w.heap.size := ⟨_, rfl⟩
  rw [hde] at hLN ⊢
  rw [← hG] at hk1
  have HLN := Lib.hid hLN
  have HC0 := Lib.hid (fun h => hT.call w1 L f h hI1 hf)
  have HKT1 := Lib.hid (KeepT.below hb1)
  have HK1 := Lib.hid hk1
  have HI1 := Lib.hid hI1
  have HBT := Lib.hid hBT1
  have HBQ := Lib.hid hBQ1
  have HF := Lib.hid hf
  have HD := Lib.hid hD
  have HP := Lib.hid hP
  have HIH := Lib.hid ih
  have HW1 := Lib.hid hw1
  have HG := Lib.hid hG
  obtain ⟨A, hA⟩ : ∃ A, A = f.A := ⟨_, rfl⟩
  obtain ⟨n, hn⟩ : ∃ n, n = f.n := ⟨_, rfl⟩
  obtain ⟨c, hc⟩ : ∃ c, c = f.c := ⟨_, rfl⟩
  have HN := Lib.hid (show n = f.ks.length by rw [hn]; exact hf.top.len)
  have hn2 : n ≤ 9223372036854775807 := by rw [hn]; exact hf.top.max
  have hnc : n ≤ c := by rw [hn, hc]; exact hf.top.cap
  have HA := Lib.hid (show Row w0 A (cellsK f.ks) by rw [hA]; exact hf.top.row)
  have cT : w1.cell? ⟨T, 0, none⟩ = some (.func (.func g) #[] lb) := by rw [hBT1.cell 0]; rfl
  have c0 : w1.cell? ⟨G, 0, none⟩ = some (.int .i64 f.op) := by rw [hk1.cell 0]; rfl
  have c1 : w1.cell? ⟨G, 1, none⟩ = some (.string f.dim) := by rw [hk1.cell 1]; rfl
  have c2 : w1.cell? ⟨G, 2, none⟩ = some (.string f.val) := by rw [hk1.cell 2]; rfl
  have c3 : w1.cell? ⟨G, 3, none⟩ = some (.slice f.A f.n f.c) := by rw [hk1.cell 3]; rfl
  have HC3 := Lib.hid (fun W (hb : KeepT w1 W) => show W.cell? ⟨G, 3, none⟩ = some (.slice A n c) from by
    rw [(hb.blk _ _ _ (.inl rfl) HK1.out).cell 3, hA, hn, hc]; rfl)
  have efn := hT.fn
  clear hw1 hb1 hk1 hI1 hBT1 hBQ1 hf hI hBT hBQ hD hP ih hde hG hA hn hc hT hLN
  go_enter Try.func73, Try.ntmps73
  go_upto_region 1 with fail
  rw [← HW1.out, ← HG.out]
  by_cases o1 : f.op = 1
  · have HPE := Lib.hid (show P = [f] by rw [HP.out, o1]; rfl)
    have HC := Lib.hid (HC0.out (by have h1 := HLN.out; rw [HPE.out] at h1; simp at h1; omega))
    rw [o1] at c0 HC
    go_upto_region 3 with (go_at_fn g; refine HC.out.mono ?_; rintro e w2 ⟨rfl, hi, hb⟩; have HI2 := Lib.hid (show I w2 (L ++ P) by rw [HPE.out]; exact hi); have HKT2 := Lib.hid hb; have c3' := HC3.out _ hb; clear hb hi)
    clear c0 c1 c2 c3 cT
    go_upto_region 4 with fail
    clear c3'
    go_loopw [20] (fun v20 wr => ∃ k : Nat, k ≤ n ∧ v20 = .int .i64 k ∧ Hid (I wr (L ++ (P ++ (D.take k).flatten))) ∧ Hid (KeepT w1 wr)) (fun i _ => n - (intOf i).toNat)
    case atStart => exact ⟨0, by omega, rfl, Lib.hid (by simpa using HI2.out), HKT2⟩
    case round =>
      clear HI2 HKT2
      obtain ⟨k, hk, rfl, HI, HB⟩ := hrel
      by_cases hlt : k < n
      · have hkz0 : (0 : Int) ≤ (k : Int) := by omega
        have hkz1 : (k : Int) < (n : Int) := by omega
        have hkz : k < f.ks.length := by have := HN.out; omega
        obtain ⟨b, off, hAe, q0, q1, q2, q3⟩ := kid_cells (HA.out.keep (Nat.le_refl _) (HTK.out.old _ _ HI.out)) hkz
        obtain ⟨x, hx⟩ : ∃ x, x = f.ks[k] := ⟨_, rfl⟩
        have hxm : x ∈ f.ks := by rw [hx]; exact List.getElem_mem _
        have HS := Lib.hid (show L ++ (P ++ (D.take (k + 1)).flatten) = L ++ (P ++ (D.take k).flatten) ++ x.leaves by
          rw [take_snoc _ _ (by rw [HD.out]; simpa using hkz), List.flatten_append]
          simp [HD.out, hx])
        rw [← hx] at q0 q1 q2 q3
        obtain ⟨wb, hwb⟩ : ∃ wb, wb = wr.alloc (.cells #[.int .i64 x.op, .string x.dim, .string x.val, .slice x.A x.n x.c] 39) := ⟨_, rfl⟩
        have hbb : Below wr.heap.size wr wb := by rw [hwb]; exact bpush (Below.refl _ _) _
        have hkb := KeepT.below hbb
        have hbk : Blk wb wr.heap.size 39 #[.int .i64 x.op, .string x.dim, .string x.val, .slice x.A x.n x.c] := by rw [hwb]; exact Blk.new _ _ _
        have hQb := hkb.blk _ _ _ (.inr rfl) (HB.out.blk _ _ _ (.inr rfl) HBQ.out)
        have hTb := hkb.blk _ _ _ (.inr rfl) (HB.out.blk _ _ _ (.inr rfl) HBT.out)
        have HX := Lib.hid (HIH.out x hxm wb _ (HF.out.kid x hxm) (by rw [← HS.out]; exact Nat.le_trans (len_take _ _ _ _) HLN.out) (HTK.out.more _ _ _ HI.out hbb) hTb hQb)
        have HKB := Lib.hid (HB.out.trans hkb)
        have HWB := Lib.hid hwb
        subst hAe
        clear hwb hbb hkb hTb hx hxm hlt
        go_upto_region 6 with fail
        rw [← HWB.out]
        clear q0 q1 q2 q3
        have q0 : wb.cell? ⟨wr.heap.size, 0, none⟩ = some (.int .i64 x.op) := by rw [hbk.cell 0]; rfl
        have q1 : wb.cell? ⟨wr.heap.size, 1, none⟩ = some (.string x.dim) := by rw [hbk.cell 1]; rfl
        have q2 : wb.cell? ⟨wr.heap.size, 2, none⟩ = some (.string x.val) := by rw [hbk.cell 2]; rfl
        have q3 : wb.cell? ⟨wr.heap.size, 3, none⟩ = some (.slice x.A x.n x.c) := by rw [hbk.cell 3]; rfl
        have qQ : wb.cell? ⟨Q, 0, none⟩ = some (.func (.func 73) #[] #[.pointer (some ⟨T, 0, none⟩), .pointer (some ⟨Q, 0, none⟩)]) := by rw [hQb.cell 0]; rfl
        clear hbk hQb
        go_wp2_with (go_at_call 73; refine HX.out.mono ?_; rintro e w3 ⟨rfl, hi, hb⟩; have HI3 := Lib.hid hi; have HB3 := Lib.hid (HKB.out.trans hb); clear hb hi)
        go_roundw
        case rel => exact ⟨k + 1, by omega, by go_num, Lib.hid (by rw [HS.out]; exact HI3.out), HB3⟩
        case measure => simp [intOf]; omega
      · obtain rfl : k = n := by omega
        have hkz1 : ¬ (k : Int) < (k : Int) := by omega
        have HE := Lib.hid (show D.take k = D from List.take_of_length_le (by rw [HD.out]; simpa using Nat.le_of_eq HN.out.symm))
        rw [HE.out] at HI
        clear HE
        go_wp2_with fail
        go_end0
        exact ⟨rfl, HI.out, HKT1.out.trans HB.out⟩
  by_cases o2 : f.op = 2
  · have HPE := Lib.hid (show P = [f] by rw [HP.out, o2]; rfl)
    have HC := Lib.hid (HC0.out (by have h1 := HLN.out; rw [HPE.out] at h1; simp at h1; omega))
    rw [o2] at c0 HC
    go_upto_region 3 with (go_at_fn g; refine HC.out.mono ?_; rintro e w2 ⟨rfl, hi, hb⟩; have HI2 := Lib.hid (show I w2 (L ++ P) by rw [HPE.out]; exact hi); have HKT2 := Lib.hid hb; have c3' := HC3.out _ hb; clear hb hi)
    clear c0 c1 c2 c3 cT
    go_upto_region 4 with fail
    clear c3'
    go_loopw [20] (fun v20 wr => ∃ k : Nat, k ≤ n ∧ v20 = .int .i64 k ∧ Hid (I wr (L ++ (P ++ (D.take k).flatten))) ∧ Hid (KeepT w1 wr)) (fun i _ => n - (intOf i).toNat)
    case atStart => exact ⟨0, by omega, rfl, Lib.hid (by simpa using HI2.out), HKT2⟩
    case round =>
      clear HI2 HKT2
      obtain ⟨k, hk, rfl, HI, HB⟩ := hrel
      by_cases hlt : k < n
      · have hkz0 : (0 : Int) ≤ (k : Int) := by omega
        have hkz1 : (k : Int) < (n : Int) := by omega
        have hkz : k < f.ks.length := by have := HN.out; omega
        obtain ⟨b, off, hAe, q0, q1, q2, q3⟩ := kid_cells (HA.out.keep (Nat.le_refl _) (HTK.out.old _ _ HI.out)) hkz
        obtain ⟨x, hx⟩ : ∃ x, x = f.ks[k] := ⟨_, rfl⟩
        have hxm : x ∈ f.ks := by rw [hx]; exact List.getElem_mem _
        have HS := Lib.hid (show L ++ (P ++ (D.take (k + 1)).flatten) = L ++ (P ++ (D.take k).flatten) ++ x.leaves by
          rw [take_snoc _ _ (by rw [HD.out]; simpa using hkz), List.flatten_append]
          simp [HD.out, hx])
        rw [← hx] at q0 q1 q2 q3
        obtain ⟨wb, hwb⟩ : ∃ wb, wb = wr.alloc (.cells #[.int .i64 x.op, .string x.dim, .string x.val, .slice x.A x.n x.c] 39) := ⟨_, rfl⟩
        have hbb : Below wr.heap.size wr wb := by rw [hwb]; exact bpush (Below.refl _ _) _
        have hkb := KeepT.below hbb
        have hbk : Blk wb wr.heap.size 39 #[.int .i64 x.op, .string x.dim, .string x.val, .slice x.A x.n x.c] := by rw [hwb]; exact Blk.new _ _ _
        have hQb := hkb.blk _ _ _ (.inr rfl) (HB.out.blk _ _ _ (.inr rfl) HBQ.out)
        have hTb := hkb.blk _ _ _ (.inr rfl) (HB.out.blk _ _ _ (.inr rfl) HBT.out)
        have HX := Lib.hid (HIH.out x hxm wb _ (HF.out.kid x hxm) (by rw [← HS.out]; exact Nat.le_trans (len_take _ _ _ _) HLN.out) (HTK.out.more _ _ _ HI.out hbb) hTb hQb)
        have HKB := Lib.hid (HB.out.trans hkb)
        have HWB := Lib.hid hwb
        subst hAe
        clear hwb hbb hkb hTb hx hxm hlt
        go_upto_region 6 with fail
        rw [← HWB.out]
        clear q0 q1 q2 q3
        have q0 : wb.cell? ⟨wr.heap.size, 0, none⟩ = some (.int .i64 x.op) := by rw [hbk.cell 0]; rfl
        have q1 : wb.cell? ⟨wr.heap.size, 1, none⟩ = some (.string x.dim) := by rw [hbk.cell 1]; rfl
        have q2 : wb.cell? ⟨wr.heap.size, 2, none⟩ = some (.string x.val) := by rw [hbk.cell 2]; rfl
        have q3 : wb.cell? ⟨wr.heap.size, 3, none⟩ = some (.slice x.A x.n x.c) := by rw [hbk.cell 3]; rfl
        have qQ : wb.cell? ⟨Q, 0, none⟩ = some (.func (.func 73) #[] #[.pointer (some ⟨T, 0, none⟩), .pointer (some ⟨Q, 0, none⟩)]) := by rw [hQb.cell 0]; rfl
        clear hbk hQb
        go_wp2_with (go_at_call 73; refine HX.out.mono ?_; rintro e w3 ⟨rfl, hi, hb⟩; have HI3 := Lib.hid hi; have HB3 := Lib.hid (HKB.out.trans hb); clear hb hi)
        go_roundw
        case rel => exact ⟨k + 1, by omega, by go_num, Lib.hid (by rw [HS.out]; exact HI3.out), HB3⟩
        case measure => simp [intOf]; omega
      · obtain rfl : k = n := by omega
        have hkz1 : ¬ (k : Int) < (k : Int) := by omega
        have HE := Lib.hid (show D.take k = D from List.take_of_length_le (by rw [HD.out]; simpa using Nat.le_of_eq HN.out.symm))
        rw [HE.out] at HI
        clear HE
        go_wp2_with fail
        go_end0
        exact ⟨rfl, HI.out, HKT1.out.trans HB.out⟩
  have HPE := Lib.hid (show P = [] by rw [HP.out]; simp [isLeaf, o1, o2])
  obtain ⟨op, hop⟩ : ∃ o, o = f.op := ⟨_, rfl⟩
  rw [← hop] at c0 o1 o2
  have o1b : (op == 1) = false := by simp [o1]
  have o2b : (op == 2) = false := by simp [o2]
  have HI2 := Lib.hid (show I w1 (L ++ P) by rw [HPE.out]; simpa using HI1.out)
  have HKT2 := Lib.hid (KeepT.refl w1)
  have c3' := HC3.out _ (KeepT.refl w1)
  clear c3 cT hop
  go_upto_region 4 with fail
  clear c0 c1 c2 c3'
  go_loopw [20] (fun v20 wr => ∃ k : Nat, k ≤ n ∧ v20 = .int .i64 k ∧ Hid (I wr (L ++ (P ++ (D.take k).flatten))) ∧ Hid (KeepT w1 wr)) (fun i _ => n - (intOf i).toNat)
  case atStart => exact ⟨0, by omega, rfl, Lib.hid (by simpa using HI2.out), HKT2⟩
  case round =>
    clear HI2 HKT2
    obtain ⟨k, hk, rfl, HI, HB⟩ := hrel
    by_cases hlt : k < n
    · have hkz0 : (0 : Int) ≤ (k : Int) := by omega
      have hkz1 : (k : Int) < (n : Int) := by omega
      have hkz : k < f.ks.length := by have := HN.out; omega
      obtain ⟨b, off, hAe, q0, q1, q2, q3⟩ := kid_cells (HA.out.keep (Nat.le_refl _) (HTK.out.old _ _ HI.out)) hkz
      obtain ⟨x, hx⟩ : ∃ x, x = f.ks[k] := ⟨_, rfl⟩
      have hxm : x ∈ f.ks := by rw [hx]; exact List.getElem_mem _
      have HS := Lib.hid (show L ++ (P ++ (D.take (k + 1)).flatten) = L ++ (P ++ (D.take k).flatten) ++ x.leaves by
        rw [take_snoc _ _ (by rw [HD.out]; simpa using hkz), List.flatten_append]
        simp [HD.out, hx])
      rw [← hx] at q0 q1 q2 q3
      obtain ⟨wb, hwb⟩ : ∃ wb, wb = wr.alloc (.cells #[.int .i64 x.op, .string x.dim, .string x.val, .slice x.A x.n x.c] 39) := ⟨_, rfl⟩
      have hbb : Below wr.heap.size wr wb := by rw [hwb]; exact bpush (Below.refl _ _) _
      have hkb := KeepT.below hbb
      have hbk : Blk wb wr.heap.size 39 #[.int .i64 x.op, .string x.dim, .string x.val, .slice x.A x.n x.c] := by rw [hwb]; exact Blk.new _ _ _
      have hQb := hkb.blk _ _ _ (.inr rfl) (HB.out.blk _ _ _ (.inr rfl) HBQ.out)
      have hTb := hkb.blk _ _ _ (.inr rfl) (HB.out.blk _ _ _ (.inr rfl) HBT.out)
      have HX := Lib.hid (HIH.out x hxm wb _ (HF.out.kid x hxm) (by rw [← HS.out]; exact Nat.le_trans (len_take _ _ _ _) HLN.out) (HTK.out.more _ _ _ HI.out hbb) hTb hQb)
      have HKB := Lib.hid (HB.out.trans hkb)
      have HWB := Lib.hid hwb
      subst hAe
      clear hwb hbb hkb hTb hx hxm hlt
      go_upto_region 6 with fail
      rw [← HWB.out]
      clear q0 q1 q2 q3
      have q0 : wb.cell? ⟨wr.heap.size, 0, none⟩ = some (.int .i64 x.op) := by rw [hbk.cell 0]; rfl
      have q1 : wb.cell? ⟨wr.heap.size, 1, none⟩ = some (.string x.dim) := by rw [hbk.cell 1]; rfl
      have q2 : wb.cell? ⟨wr.heap.size, 2, none⟩ = some (.string x.val) := by rw [hbk.cell 2]; rfl
      have q3 : wb.cell? ⟨wr.heap.size, 3, none⟩ = some (.slice x.A x.n x.c) := by rw [hbk.cell 3]; rfl
      have qQ : wb.cell? ⟨Q, 0, none⟩ = some (.func (.func 73) #[] #[.pointer (some ⟨T, 0, none⟩), .pointer (some ⟨Q, 0, none⟩)]) := by rw [hQb.cell 0]; rfl
      clear hbk hQb
      go_wp2_with (go_at_call 73; refine HX.out.mono ?_; rintro e w3 ⟨rfl, hi, hb⟩; have HI3 := Lib.hid hi; have HB3 := Lib.hid (HKB.out.trans hb); clear hb hi)
      go_roundw
      case rel => exact ⟨k + 1, by omega, by go_num, Lib.hid (by rw [HS.out]; exact HI3.out), HB3⟩
      case measure => simp [intOf]; omega
    · obtain rfl : k = n := by omega
      have hkz1 : ¬ (k : Int) < (k : Int) := by omega
      have HE := Lib.hid (show D.take k = D from List.take_of_length_le (by rw [HD.out]; simpa using Nat.le_of_eq HN.out.symm))
      rw [HE.out] at HI
      clear HE
      go_wp2_with fail
      go_end0
      exact ⟨rfl, HI.out, HKT1.out.trans HB.out⟩
set_option maxRecDepth 100000 in
set_option maxHeartbeats 8000000 in
theorem leaves_any {g : Nat} {lb : Array Value} {w0 : World} {N : Nat} {I : World → List FT → Prop} (hT : Taker g lb w0 N I) (f : FT) (w : World) (L : List FT) (hf : FIn w0 f) (hLN : (L ++ f.leaves).length ≤ N) (hI : I w L) :
    Calls Try.prog 54 #[.agg #[.int .i64 f.op, .string f.dim, .string f.val, .slice f.A f.n f.c], .func (.func g) #[] lb] w (WalkPost I w (L ++ f.leaves)) := by
  obtain ⟨w1, hw1⟩ : ∃ w1, w1 = ((w.alloc (.cells #[.int .i64 f.op, .string f.dim, .string f.val, .slice f.A f.n f.c] 39)).alloc (.cells #[takeF g lb] 99)).alloc (.cells #[walkF (w.heap.size + 1) (w.heap.size + 2)] 99) := ⟨_, rfl⟩
  have hb1 : Below w.heap.size w w1 := by rw [hw1]; exact bpush (bpush (bpush (Below.refl _ _) _) _) _
  have hba : Below (w.alloc (.cells #[.int .i64 f.op, .string f.dim, .string f.val, .slice f.A f.n f.c] 39)).heap.size (w.alloc (.cells #[.int .i64 f.op, .string f.dim, .string f.val, .slice f.A f.n f.c] 39)) w1 := by rw [hw1]; exact bpush (bpush (Below.refl _ _) _) _
  have hbb : Below ((w.alloc (.cells #[.int .i64 f.op, .string f.dim, .string f.val, .slice f.A f.n f.c] 39)).alloc (.cells #[takeF g lb] 99)).heap.size ((w.alloc (.cells #[.int .i64 f.op, .string f.dim, .string f.val, .slice f.A f.n f.c] 39)).alloc (.cells #[takeF g lb] 99)) w1 := by rw [hw1]; exact bpush (Below.refl _ _) _
  have hK0 : Blk w1 w.heap.size 39 #[.int .i64 f.op, .string f.dim, .string f.val, .slice f.A f.n f.c] := (KeepT.below hba).blk _ _ _ (.inl rfl) (Blk.new _ _ _)
  have hT0 : Blk w1 (w.heap.size + 1) 99 #[takeF g lb] := by
    have := (KeepT.below hbb).blk _ _ _ (.inr rfl) (Blk.new (w.alloc (.cells #[.int .i64 f.op, .string f.dim, .string f.val, .slice f.A f.n f.c] 39)) 99 #[takeF g lb])
    simpa using this
  have hQ0 : Blk w1 (w.heap.size + 2) 99 #[walkF (w.heap.size + 1) (w.heap.size + 2)] := by
    have := Blk.new ((w.alloc (.cells #[.int .i64 f.op, .string f.dim, .string f.val, .slice f.A f.n f.c] 39)).alloc (.cells #[takeF g lb] 99)) 99 #[walkF (w.heap.size + 1) (w.heap.size + 2)]
    rw [hw1]; simpa using this
  have c0 : w1.cell? ⟨w.heap.size, 0, none⟩ = some (.int .i64 f.op) := by rw [hK0.cell 0]; rfl
  have c1 : w1.cell? ⟨w.heap.size, 1, none⟩ = some (.string f.dim) := by rw [hK0.cell 1]; rfl
  have c2 : w1.cell? ⟨w.heap.size, 2, none⟩ = some (.string f.val) := by rw [hK0.cell 2]; rfl
  have c3 : w1.cell? ⟨w.heap.size, 3, none⟩ = some (.slice f.A f.n f.c) := by rw [hK0.cell 3]; rfl
  have cQ : w1.cell? ⟨w.heap.size + 2, 0, none⟩ = some (.func (.func 73) #[] #[.pointer (some ⟨w.heap.size + 1, 0, none⟩), .pointer (some ⟨w.heap.size + 2, 0, none⟩)]) := by rw [hQ0.cell 0]; rfl
  have HX := Lib.hid (walk51 hT (w.heap.size + 1) (w.heap.size + 2) f w1 L hf hLN (hT.more _ _ _ hI hb1) hT0 hQ0)
  have HKT := Lib.hid (KeepT.below hb1)
  unfold takeF walkF at hw1
  have HW1 := Lib.hid hw1
  clear hw1 hb1 hba hbb hK0 hT0 hQ0 hI hf hT
  go_enter Try.func54, Try.ntmps54
  go_upto_region 3 with fail
  rw [← HW1.out]
  go_wp2_with (go_at_call 73; refine HX.out.mono ?_; rintro e w3 ⟨rfl, hi, hb⟩; have HI3 := Lib.hid hi; have HB3 := Lib.hid (HKT.out.trans hb); clear hb hi)
  go_end0
  exact ⟨rfl, HI3.out, HB3.out⟩
end Go.Proofs.Ytgaallkdfcckpaa
