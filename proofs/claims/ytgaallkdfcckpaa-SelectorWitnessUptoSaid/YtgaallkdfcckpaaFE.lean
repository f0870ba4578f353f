/- The dimensions of a filter's conditions: the document's list (29). -/
import Derived.Test.YtgaallkdfcckpaaFD
namespace Go.Proofs.Ytgaallkdfcckpaa
open Go.RowKit Go.Maps Go.Lib
set_option linter.unusedSimpArgs false
set_option linter.unusedVariables false
theorem own_lower {w : World} {B B' : Nat} {e : TypeId} {size n : Nat} {v : Value} {xs : List Value} (h : w.ownsRow B e size v n xs) (hB : B' ≤ B) : w.ownsRow B' e size v n xs := by
  refine ⟨h.1, ?_⟩
  rcases h.2 with h | ⟨g, cap, cur, e1, h1, h2⟩
  · exact .inl h
  · exact .inr ⟨g, cap, cur, e1, Nat.le_trans hB h1, h2⟩
def isLeaf (op : Int) : Bool := decide (op = 1 ∨ op = 2)
def FT.dims : FT → List ByteArray := FT.fold fun f l => (if isLeaf f.op then [f.dim] else []) ++ l.flatten
theorem FT.dims_eq (f : FT) : f.dims = (if isLeaf f.op then [f.dim] else []) ++ (f.ks.map FT.dims).flatten := FT.fold_eq _ f
def TextsP (w : World) (L : List ByteArray) (e : Ending) (w' : World) : Prop :=
  ∃ v, e = .returned v ∧ w'.ownsRow w.heap.size 9 1 v L.length (texts L) ∧ Below w.heap.size w w'
set_option maxRecDepth 100000 in
set_option maxHeartbeats 16000000 in
theorem dims_any : ∀ (f : FT) (w : World), FIn w f → f.dims.length ≤ 1000 → Calls Try.prog 57 #[.agg #[.int .i64 f.op, .string f.dim, .string f.val, .slice f.A f.n f.c]] w (TextsP w f.dims) := by
  intro f
  induction f using FT.ind with
  | h f ih =>
  intro w hf hd
  obtain ⟨w1, hw1⟩ : ∃ w1, w1 = w.alloc (.cells #[.int .i64 f.op, .string f.dim, .string f.val, .slice f.A f.n f.c] 39) := ⟨_, rfl⟩
  have HB1 := Lib.hid (show Below w.heap.size w w1 by rw [hw1]; exact bpush (Below.refl _ _) _)
  have HK := Lib.hid (show Blk w1 w.heap.size 39 #[.int .i64 f.op, .string f.dim, .string f.val, .slice f.A f.n f.c] by rw [hw1]; exact Blk.new _ _ _)
  have HW1 := Lib.hid hw1
  have HF := Lib.hid hf
  have HIH := Lib.hid ih
  obtain ⟨A, hA⟩ : ∃ A, A = f.A := ⟨_, rfl⟩
  obtain ⟨n, hn⟩ : ∃ n, n = f.n := ⟨_, rfl⟩
  obtain ⟨c, hc⟩ : ∃ c, c = f.c := ⟨_, rfl⟩
  have HA := Lib.hid (show Row w A (cellsK f.ks) by rw [hA]; exact hf.top.row)
  have HN := Lib.hid (show n = f.ks.length by rw [hn]; exact hf.top.len)
  have hn2 : n ≤ 9223372036854775807 := by rw [hn]; exact hf.top.max
  have hnc : n ≤ c := by rw [hn, hc]; exact hf.top.cap
  obtain ⟨g, hg⟩ : ∃ g, g = w.heap.size := ⟨_, rfl⟩
  have HG := Lib.hid hg
  have HKB := Lib.hid (fun W (hb : Below w1.heap.size w1 W) => show Blk W g 39 #[.int .i64 f.op, .string f.dim, .string f.val, .slice f.A f.n f.c] from by
    have hl := HK.out.lt
    rw [hg]
    exact (hb.block _ hl).trans HK.out)
  have HC3 := Lib.hid (fun W (hb : Below w1.heap.size w1 W) => show W.cell? ⟨g, 3, none⟩ = some (.slice A n c) from by
    have h3 := (HKB.out W hb).cell 3
    rw [h3, hA, hn, hc]; rfl)
  obtain ⟨D, hD⟩ : ∃ D, D = f.ks.map FT.dims := ⟨_, rfl⟩
  obtain ⟨x1, hx1⟩ : ∃ x, x = f.dim := ⟨_, rfl⟩
  obtain ⟨op, hopx⟩ : ∃ x, x = f.op := ⟨_, rfl⟩
  obtain ⟨P, hP⟩ : ∃ P, P = (if isLeaf op then [x1] else []) := ⟨_, rfl⟩
  have hde : f.dims = P ++ D.flatten := by rw [hD, f.dims_eq, hP, hopx, hx1]
  rw [hde] at hd ⊢
  have hk0 := HKB.out w1 (Below.refl _ _)
  have c0 : w1.cell? ⟨g, 0, none⟩ = some (.int .i64 op) := by rw [hk0.cell 0, hopx]; rfl
  have c1 : w1.cell? ⟨g, 1, none⟩ = some (.string x1) := by rw [hk0.cell 1, hx1]; rfl
  have HP := Lib.hid hP
  have HD := Lib.hid hD
  have HG1 := Lib.hid (show g < w1.heap.size by rw [hg]; exact HK.out.lt)
  have HDL := Lib.hid hd
  clear hw1 hf hD ih hA hn hc hg hde hx1 hopx hP hk0 hd
  go_enter Try.func57, Try.ntmps57
  go_upto_region 2 with fail
  rw [← HW1.out, ← HG.out]
  by_cases o1 : op = 1
  · have hp : P = [x1] := by rw [HP.out, o1]; rfl
    have HRE := Lib.hid (show Row (w1.alloc (.cells #[.string x1] 9)) (some ⟨w1.heap.size, 0, none⟩) (texts [x1]) from .inr ⟨_, _, rfl, fun j u hu => by
      match j, hu with
      | 0, hu => simp [texts] at hu; subst hu; exact cell_made rfl rfl⟩)
    subst o1
    go_upto_region 3 with fail
    go_upto_region 4 with (at_builtin; refine wpList_append_texts rfl _ _ rfl w1.heap.size (.slice none 0 0) 0 [] rfl (some ⟨w1.heap.size, 0, none⟩) 1 1 [x1] rfl (World.ownsRow_nil _ _ _ _) HRE.out rfl (Nat.le_refl _) (fun h => by cases h) (by decide) (by simp) ?_; intro v3 w3 ho1 hg1 _; have HO3 := Lib.hid (show w3.ownsRow w1.heap.size 9 1 v3 P.length (texts P) from (by rw [hp]; simpa using ho1)); have HB3 := Lib.hid (show Below w1.heap.size w1 w3 from (bpush (Below.refl _ _) _).trans (grown_below (v := .slice none 0 0) (e := 9) (n := 0) (xs := []) (World.ownsRow_nil _ _ _ _) hg1 (by simp))); clear ho1 hg1)
    clear HRE hp
    clear c0 c1
    go_upto_region 5 with fail
    go_loopw [3, 4] (fun v3 v4 wr => ∃ (k : Nat) (vv : Value), k ≤ n ∧ v4 = .int .i64 k ∧ vv = v3 ∧ Hid (wr.ownsRow w1.heap.size 9 1 vv (P ++ (D.take k).flatten).length (texts (P ++ (D.take k).flatten))) ∧ Hid (Below w1.heap.size w1 wr)) (fun _ i _ => n - (intOf i).toNat)
    case atStart => exact ⟨0, _, by omega, rfl, rfl, Lib.hid (by simpa using HO3.out), HB3⟩
    case round =>
      clear HO3 HB3
      obtain ⟨k, vv, hk, rfl, rfl, HO, HB⟩ := hrel
      have c3 := HC3.out wr HB.out
      by_cases hlt : k < n
      · have hkz0 : (0 : Int) ≤ (k : Int) := by omega
        have hkz1 : (k : Int) < (n : Int) := by omega
        have hkz : k < f.ks.length := by have := HN.out; omega
        obtain ⟨b, off, rfl, q0, q1, q2, q3⟩ := kid_cells (HA.out.keep (Nat.le_refl _) (bthen HB1.out HB.out)) hkz
        obtain ⟨x, hx⟩ : ∃ x, x = f.ks[k] := ⟨_, rfl⟩
        have hxm : x ∈ f.ks := by rw [hx]; exact List.getElem_mem _
        have hS : (D.take (k + 1)).flatten = (D.take k).flatten ++ x.dims := by
          rw [take_snoc _ _ (by rw [HD.out]; simpa using hkz), List.flatten_append]
          simp [HD.out, hx]
        have hlen : (P ++ (D.take k).flatten).length + x.dims.length ≤ 1000 := by
          have h1 := HDL.out
          have h2 : D.flatten = (D.take (k + 1)).flatten ++ (D.drop (k + 1)).flatten := by rw [← List.flatten_append, List.take_append_drop]
          rw [h2, hS] at h1
          simp only [List.length_append] at h1 ⊢
          omega
        have hS2 : P ++ (D.take (k + 1)).flatten = (P ++ (D.take k).flatten) ++ x.dims := by rw [hS, List.append_assoc]
        have HX := Lib.hid (HIH.out x hxm wr (FIn.keep x (HF.out.kid x hxm) (Nat.le_refl _) (bthen HB1.out HB.out)) (by omega))
        obtain ⟨U, hU⟩ : ∃ U, U = P ++ (D.take k).flatten := ⟨_, rfl⟩
        obtain ⟨X, hX⟩ : ∃ X, X = x.dims := ⟨_, rfl⟩
        rw [← hU] at hlen hS2 HO
        rw [← hX] at hlen hS2 HX
        have HS := Lib.hid hS2
        have HLEN := Lib.hid (show (U.length + X.length) * 16 ≤ 140737488355328 by omega)
        rw [← hx] at q0 q1 q2 q3
        clear hx hxm hlt hS hS2 hU hX hlen
        go_wp2_with (first
          | (at_builtin; refine wpList_append_texts rfl _ _ rfl w1.heap.size vv U.length (texts U) rfl A2 X.length cc2 X rfl HO2.out HR2.out rfl HC2.out HN2.out HLEN.out HZ2.out ?_; intro v4 w4 ho4 hg4 _; have HO4 := Lib.hid ho4; have HB4 := Lib.hid (show Below w1.heap.size w1 w4 from (bthen HB.out HB2.out).trans (grown_below HO2.out hg4 HZ2.out)); clear ho4 hg4)
          | (go_at_call 57; refine HX.out.mono ?_; rintro e w2 ⟨v2, rfl, ho2, hb2⟩; obtain ⟨A2, cc2, rfl, hr2, hc2, hn2'⟩ := own_slice ho2; have HR2 := Lib.hid hr2; have HC2 := Lib.hid hc2; have HN2 := Lib.hid hn2'; have HB2 := Lib.hid hb2; have HO2 := Lib.hid (own_below HO.out hb2); have HZ2 := Lib.hid (show w1.heap.size ≤ w2.heap.size from (bthen HB.out hb2).size); clear ho2 hb2 hr2 hc2 hn2'))
        go_roundw
        case rel => exact ⟨k + 1, v4, by omega, by go_num, rfl, Lib.hid (by rw [HS.out]; have := HO4.out; rw [texts_append] at this; simpa using this), HB4⟩
        case measure => simp [intOf]; omega
      · obtain rfl : k = n := by omega
        have hkz1 : ¬ (k : Int) < (k : Int) := by omega
        have HE := Lib.hid (show D.take k = D from List.take_of_length_le (by rw [HD.out]; simpa using Nat.le_of_eq HN.out.symm))
        go_wp2_with fail
        go_ret
        exact ⟨vv, rfl, by have := own_lower HO.out HB1.out.size; rw [HE.out] at this; exact this, bthen HB1.out HB.out⟩
  by_cases o2 : op = 2
  · have hp : P = [x1] := by rw [HP.out, o2]; rfl
    have HRE := Lib.hid (show Row (w1.alloc (.cells #[.string x1] 9)) (some ⟨w1.heap.size, 0, none⟩) (texts [x1]) from .inr ⟨_, _, rfl, fun j u hu => by
      match j, hu with
      | 0, hu => simp [texts] at hu; subst hu; exact cell_made rfl rfl⟩)
    subst o2
    go_upto_region 3 with fail
    go_upto_region 4 with (at_builtin; refine wpList_append_texts rfl _ _ rfl w1.heap.size (.slice none 0 0) 0 [] rfl (some ⟨w1.heap.size, 0, none⟩) 1 1 [x1] rfl (World.ownsRow_nil _ _ _ _) HRE.out rfl (Nat.le_refl _) (fun h => by cases h) (by decide) (by simp) ?_; intro v3 w3 ho1 hg1 _; have HO3 := Lib.hid (show w3.ownsRow w1.heap.size 9 1 v3 P.length (texts P) from (by rw [hp]; simpa using ho1)); have HB3 := Lib.hid (show Below w1.heap.size w1 w3 from (bpush (Below.refl _ _) _).trans (grown_below (v := .slice none 0 0) (e := 9) (n := 0) (xs := []) (World.ownsRow_nil _ _ _ _) hg1 (by simp))); clear ho1 hg1)
    clear HRE hp
    clear c0 c1
    go_upto_region 5 with fail
    go_loopw [3, 4] (fun v3 v4 wr => ∃ (k : Nat) (vv : Value), k ≤ n ∧ v4 = .int .i64 k ∧ vv = v3 ∧ Hid (wr.ownsRow w1.heap.size 9 1 vv (P ++ (D.take k).flatten).length (texts (P ++ (D.take k).flatten))) ∧ Hid (Below w1.heap.size w1 wr)) (fun _ i _ => n - (intOf i).toNat)
    case atStart => exact ⟨0, _, by omega, rfl, rfl, Lib.hid (by simpa using HO3.out), HB3⟩
    case round =>
      clear HO3 HB3
      obtain ⟨k, vv, hk, rfl, rfl, HO, HB⟩ := hrel
      have c3 := HC3.out wr HB.out
      by_cases hlt : k < n
      · have hkz0 : (0 : Int) ≤ (k : Int) := by omega
        have hkz1 : (k : Int) < (n : Int) := by omega
        have hkz : k < f.ks.length := by have := HN.out; omega
        obtain ⟨b, off, rfl, q0, q1, q2, q3⟩ := kid_cells (HA.out.keep (Nat.le_refl _) (bthen HB1.out HB.out)) hkz
        obtain ⟨x, hx⟩ : ∃ x, x = f.ks[k] := ⟨_, rfl⟩
        have hxm : x ∈ f.ks := by rw [hx]; exact List.getElem_mem _
        have hS : (D.take (k + 1)).flatten = (D.take k).flatten ++ x.dims := by
          rw [take_snoc _ _ (by rw [HD.out]; simpa using hkz), List.flatten_append]
          simp [HD.out, hx]
        have hlen : (P ++ (D.take k).flatten).length + x.dims.length ≤ 1000 := by
          have h1 := HDL.out
          have h2 : D.flatten = (D.take (k + 1)).flatten ++ (D.drop (k + 1)).flatten := by rw [← List.flatten_append, List.take_append_drop]
          rw [h2, hS] at h1
          simp only [List.length_append] at h1 ⊢
          omega
        have hS2 : P ++ (D.take (k + 1)).flatten = (P ++ (D.take k).flatten) ++ x.dims := by rw [hS, List.append_assoc]
        have HX := Lib.hid (HIH.out x hxm wr (FIn.keep x (HF.out.kid x hxm) (Nat.le_refl _) (bthen HB1.out HB.out)) (by omega))
        obtain ⟨U, hU⟩ : ∃ U, U = P ++ (D.take k).flatten := ⟨_, rfl⟩
        obtain ⟨X, hX⟩ : ∃ X, X = x.dims := ⟨_, rfl⟩
        rw [← hU] at hlen hS2 HO
        rw [← hX] at hlen hS2 HX
        have HS := Lib.hid hS2
        have HLEN := Lib.hid (show (U.length + X.length) * 16 ≤ 140737488355328 by omega)
        rw [← hx] at q0 q1 q2 q3
        clear hx hxm hlt hS hS2 hU hX hlen
        go_wp2_with (first
          | (at_builtin; refine wpList_append_texts rfl _ _ rfl w1.heap.size vv U.length (texts U) rfl A2 X.length cc2 X rfl HO2.out HR2.out rfl HC2.out HN2.out HLEN.out HZ2.out ?_; intro v4 w4 ho4 hg4 _; have HO4 := Lib.hid ho4; have HB4 := Lib.hid (show Below w1.heap.size w1 w4 from (bthen HB.out HB2.out).trans (grown_below HO2.out hg4 HZ2.out)); clear ho4 hg4)
          | (go_at_call 57; refine HX.out.mono ?_; rintro e w2 ⟨v2, rfl, ho2, hb2⟩; obtain ⟨A2, cc2, rfl, hr2, hc2, hn2'⟩ := own_slice ho2; have HR2 := Lib.hid hr2; have HC2 := Lib.hid hc2; have HN2 := Lib.hid hn2'; have HB2 := Lib.hid hb2; have HO2 := Lib.hid (own_below HO.out hb2); have HZ2 := Lib.hid (show w1.heap.size ≤ w2.heap.size from (bthen HB.out hb2).size); clear ho2 hb2 hr2 hc2 hn2'))
        go_roundw
        case rel => exact ⟨k + 1, v4, by omega, by go_num, rfl, Lib.hid (by rw [HS.out]; have := HO4.out; rw [texts_append] at this; simpa using this), HB4⟩
        case measure => simp [intOf]; omega
      · obtain rfl : k = n := by omega
        have hkz1 : ¬ (k : Int) < (k : Int) := by omega
        have HE := Lib.hid (show D.take k = D from List.take_of_length_le (by rw [HD.out]; simpa using Nat.le_of_eq HN.out.symm))
        go_wp2_with fail
        go_ret
        exact ⟨vv, rfl, by have := own_lower HO.out HB1.out.size; rw [HE.out] at this; exact this, bthen HB1.out HB.out⟩
  · have hp : P = [] := by rw [HP.out]; simp [isLeaf, o1, o2]
    have o1b : (op == 1) = false := by simp [o1]
    have o2b : (op == 2) = false := by simp [o2]
    obtain ⟨v3, hv3⟩ : ∃ v3, v3 = Value.slice none 0 0 := ⟨_, rfl⟩
    have HO3 := Lib.hid (show w1.ownsRow w1.heap.size 9 1 v3 P.length (texts P) by rw [hp, hv3]; exact World.ownsRow_nil _ _ _ _)
    have HB3 := Lib.hid (Below.refl w1.heap.size w1)
    go_upto_region 4 with fail
    rw [← hv3]
    clear hv3 hp
    clear c0 c1
    go_upto_region 5 with fail
    go_loopw [3, 4] (fun v3 v4 wr => ∃ (k : Nat) (vv : Value), k ≤ n ∧ v4 = .int .i64 k ∧ vv = v3 ∧ Hid (wr.ownsRow w1.heap.size 9 1 vv (P ++ (D.take k).flatten).length (texts (P ++ (D.take k).flatten))) ∧ Hid (Below w1.heap.size w1 wr)) (fun _ i _ => n - (intOf i).toNat)
    case atStart => exact ⟨0, _, by omega, rfl, rfl, Lib.hid (by simpa using HO3.out), HB3⟩
    case round =>
      clear HO3 HB3
      obtain ⟨k, vv, hk, rfl, rfl, HO, HB⟩ := hrel
      have c3 := HC3.out wr HB.out
      by_cases hlt : k < n
      · have hkz0 : (0 : Int) ≤ (k : Int) := by omega
        have hkz1 : (k : Int) < (n : Int) := by omega
        have hkz : k < f.ks.length := by have := HN.out; omega
        obtain ⟨b, off, rfl, q0, q1, q2, q3⟩ := kid_cells (HA.out.keep (Nat.le_refl _) (bthen HB1.out HB.out)) hkz
        obtain ⟨x, hx⟩ : ∃ x, x = f.ks[k] := ⟨_, rfl⟩
        have hxm : x ∈ f.ks := by rw [hx]; exact List.getElem_mem _
        have hS : (D.take (k + 1)).flatten = (D.take k).flatten ++ x.dims := by
          rw [take_snoc _ _ (by rw [HD.out]; simpa using hkz), List.flatten_append]
          simp [HD.out, hx]
        have hlen : (P ++ (D.take k).flatten).length + x.dims.length ≤ 1000 := by
          have h1 := HDL.out
          have h2 : D.flatten = (D.take (k + 1)).flatten ++ (D.drop (k + 1)).flatten := by rw [← List.flatten_append, List.take_append_drop]
          rw [h2, hS] at h1
          simp only [List.length_append] at h1 ⊢
          omega
        have hS2 : P ++ (D.take (k + 1)).flatten = (P ++ (D.take k).flatten) ++ x.dims := by rw [hS, List.append_assoc]
        have HX := Lib.hid (HIH.out x hxm wr (FIn.keep x (HF.out.kid x hxm) (Nat.le_refl _) (bthen HB1.out HB.out)) (by omega))
        obtain ⟨U, hU⟩ : ∃ U, U = P ++ (D.take k).flatten := ⟨_, rfl⟩
        obtain ⟨X, hX⟩ : ∃ X, X = x.dims := ⟨_, rfl⟩
        rw [← hU] at hlen hS2 HO
        rw [← hX] at hlen hS2 HX
        have HS := Lib.hid hS2
        have HLEN := Lib.hid (show (U.length + X.length) * 16 ≤ 140737488355328 by omega)
        rw [← hx] at q0 q1 q2 q3
        clear hx hxm hlt hS hS2 hU hX hlen
        go_wp2_with (first
          | (at_builtin; refine wpList_append_texts rfl _ _ rfl w1.heap.size vv U.length (texts U) rfl A2 X.length cc2 X rfl HO2.out HR2.out rfl HC2.out HN2.out HLEN.out HZ2.out ?_; intro v4 w4 ho4 hg4 _; have HO4 := Lib.hid ho4; have HB4 := Lib.hid (show Below w1.heap.size w1 w4 from (bthen HB.out HB2.out).trans (grown_below HO2.out hg4 HZ2.out)); clear ho4 hg4)
          | (go_at_call 57; refine HX.out.mono ?_; rintro e w2 ⟨v2, rfl, ho2, hb2⟩; obtain ⟨A2, cc2, rfl, hr2, hc2, hn2'⟩ := own_slice ho2; have HR2 := Lib.hid hr2; have HC2 := Lib.hid hc2; have HN2 := Lib.hid hn2'; have HB2 := Lib.hid hb2; have HO2 := Lib.hid (own_below HO.out hb2); have HZ2 := Lib.hid (show w1.heap.size ≤ w2.heap.size from (bthen HB.out hb2).size); clear ho2 hb2 hr2 hc2 hn2'))
        go_roundw
        case rel => exact ⟨k + 1, v4, by omega, by go_num, rfl, Lib.hid (by rw [HS.out]; have := HO4.out; rw [texts_append] at this; simpa using this), HB4⟩
        case measure => simp [intOf]; omega
      · obtain rfl : k = n := by omega
        have hkz1 : ¬ (k : Int) < (k : Int) := by omega
        have HE := Lib.hid (show D.take k = D from List.take_of_length_le (by rw [HD.out]; simpa using Nat.le_of_eq HN.out.symm))
        go_wp2_with fail
        go_ret
        exact ⟨vv, rfl, by have := own_lower HO.out HB1.out.size; rw [HE.out] at this; exact this, bthen HB1.out HB.out⟩
end Go.Proofs.Ytgaallkdfcckpaa
