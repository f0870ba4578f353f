/- Read, List. -/
import Derived.Test.YtaahomohhagcoaaJ
import Derived.Sort.OwnSorted
import Derived.Sort.MapsRangeIn
import Derived.Lib.SlicesCompact
namespace Go.Proofs.Ytaahomohhagcoaa
open Go.RowKit Go.Maps Go.Shelf Go.Lib
set_option linter.unusedSimpArgs false
set_option linter.unusedVariables false
def sortD (L : List ByteArray) : List (List UInt8) := (L.map dat).mergeSort fun x y => decide (x ≤ y)
theorem sortD_len (L : List ByteArray) : (sortD L).length = L.length := by unfold sortD; rw [List.length_mergeSort, List.length_map]
theorem sortD_pw (L : List ByteArray) : (sortD L).Pairwise (· ≤ ·) := by
  have := List.pairwise_mergeSort (le := fun x y : List UInt8 => decide (x ≤ y)) (fun a b c h1 h2 => by simp at *; exact List.le_trans h1 h2) (fun a b => by
    rcases List.le_total a b with h | h <;> simp [h]) (L.map dat)
  exact this.imp fun h => of_decide_eq_true h
theorem texts_enc (L : List ByteArray) : texts L = (L.map dat).map encStr := by
  simp only [texts, List.map_map]
  refine List.map_congr_left fun s _ => ?_
  show Value.string s = Value.string (ofD (dat s))
  rw [of_dat]
theorem texts_ofD (zs : List (List UInt8)) : zs.map encStr = texts (zs.map ofD) := by
  have e : dat ∘ ofD = id := funext fun l => dat_of l
  have e2 : (zs.map ofD).map dat = zs := by rw [List.map_map, e, List.map_id]
  rw [texts_enc, e2]
theorem sort_own (B : Nat) (v : Value) (n : Nat) (L : List ByteArray) (w : World) (h : w.ownsRow B 9 1 v n (texts L)) (hn : n * 16 ≤ 140737488355328) :
    Calls Try.prog 47 #[v] w fun e w' => e = .returned (.tuple #[]) ∧ w'.ownsRow B 9 1 v n ((sortD L).map encStr) ∧ Below B w w' := by
  have hl : n = L.length := by have := h.1; simpa [texts] using this.symm
  rw [texts_enc] at h
  have hl2 := sortD_len L
  have hl3 : (L.map dat).length = L.length := List.length_map ..
  rcases h.2 with ⟨rfl, h0⟩ | ⟨g, cap, cur, rfl, hb, hc, h1, h2, h3, h4⟩
  · have hx : L = [] := List.eq_nil_of_length_eq_zero (by omega)
    subst hx
    refine (Try.slices_Sort_string_none none 0 w).mono ?_
    rintro e w' ⟨rfl, rfl⟩
    exact ⟨rfl, by simpa [sortD] using h, Below.refl _ _⟩
  · have hlt : g < w.heap.size := (Array.getElem?_eq_some_iff.1 hc).1
    have hn3 : n = (L.map dat).length := by omega
    rw [hn3] at h1 h4 ⊢
    refine (Try.slices_Sort_string g 0 cap (L.map dat) w (holds_of_block hc (by simpa using h4)) hlt (by omega)).mono ?_
    rintro e w' ⟨rfl, q, os, rfl⟩
    refine ⟨rfl, ?_, (Below.refl B w).grown (grownBy_sorted _) (by omega) (fun k hk => by cases hk; exact hb)⟩
    exact ownsRow_sorted (by rw [hl3]; exact hl2) hb hc h1 h2 h3
def ReadPost (w : World) (V : VZ) (s : ByteArray) (e : Ending) (w' : World) : Prop :=
  ∃ D n k, e = .returned (.tuple #[.slice D n k, .bool (lookF V.F s).isSome]) ∧ w'.ownsRow w.heap.size 5 1 (.slice D n k) n (u8s (lkF V.F s).bs) ∧ n = (lkF V.F s).bs.length ∧ n ≤ 16777216 ∧ Below w.heap.size w w'
set_option maxRecDepth 100000 in
set_option maxHeartbeats 8000000 in
theorem read_any (B a : Nat) (V : VZ) (s : ByteArray) (w : World) (h : VRep w B a V) (hs : s.size ≤ 9223372036854775807) :
    Calls Try.prog 20 #[.pointer (some ⟨a, 0, none⟩), .string s] w (ReadPost w V s) := by
  have hlo := (lk_own h s).1
  have hle := lk_le s h.core.one
  have hlook := (look_run h.core s hs 0).2
  obtain ⟨f, hf⟩ : ∃ f, f = lkF V.F s := ⟨_, rfl⟩
  rw [← hf] at hlo hle hlook
  have HF := Lib.hid hf
  have hn := hlo.n
  have c2 := h.core.blk.cell 2
  simp at c2
  have HU := Lib.hid (show f.n ≤ 16777216 by have := h.core.used; omega)
  obtain ⟨th, hth⟩ : ∃ th, th = (lookF V.F s).isSome := ⟨_, rfl⟩
  rw [← hth] at hlook
  have HTH := Lib.hid hth
  obtain ⟨nm, fA, fn, fc, fs, fb⟩ := f
  obtain ⟨A', c', e, hr, hc, ha⟩ := own_slice hlo
  cases e
  have hlook2 : (Instr.lookup 55 (.map (some V.b)) (.string s) true).run Try.prog w = .ok (.tuple #[.agg #[.slice fA fn fc, .int .i64 fs], .bool th]) w := hlook
  have HN := Lib.hid hn
  have HC := Lib.hid (show ∀ w1, Below w.heap.size w w1 → Calls Try.prog 40 #[.slice fA fn fc] w1 _ from fun w1 hb => cloneB_any fA fn fc (u8s fb) w1 (hr.keep (Nat.le_refl _) hb) (by rw [u8s_len]; simp only at hn; omega) (one_u8s _) hc ha (by have := HU.out; simp only at this; omega))
  have HB2 := Lib.hid (show Below w.heap.size w (w.alloc (.cells #[.slice fA fn fc, .int .i64 fs] 63)) from bpush (Below.refl _ _) _)
  clear hlook hlo hle hf hn hth h hr hc ha
  go_enter Try.func20, Try.ntmps20
  go_wp2_with (go_at_call 40; refine (HC.out _ HB2.out).mono ?_; rintro e w2 ⟨D, k, rfl, ho, hb⟩; have HO := Lib.hid ho; have HB := Lib.hid hb; clear ho hb)
  go_ret2
  exact ⟨D, fn, k, by rw [← HTH.out]; rfl, by rw [← HF.out]; exact own_less HO.out HB2.out.size, by rw [← HF.out]; exact HN.out, HU.out, bthen HB2.out HB.out⟩
def namesF (F : List FZ) : List ByteArray := F.map FZ.name
theorem names_rising {F : List FZ} (h : oneEach F) : rising (namesF F) := by
  unfold namesF rising
  rw [List.pairwise_map]
  exact h.imp fun h => (bb_lt _ _).1 h
theorem mem_names {F : List FZ} (h : oneEach F) {s : ByteArray} : s ∈ namesF F ↔ (lookF F s).isSome = true := by
  unfold namesF
  rw [List.mem_map]
  constructor
  · rintro ⟨f, hf, rfl⟩
    rw [look_some h hf]; rfl
  · intro hs
    obtain ⟨f, hf⟩ := Option.isSome_iff_exists.1 hs
    obtain ⟨h1, h2⟩ := look_name hf
    exact ⟨f, h2, h1⟩
theorem same_dat (s t : ByteArray) : (Lit.string (dat t)).sameKey (.string (dat s)) = decide (t = s) := by
  show (dat t == dat s) = _
  by_cases h : t = s
  · subst h; simp
  · rw [decide_eq_false h]
    exact beq_eq_false_iff_ne.2 fun e => h (dat_inj e)
/-- The names that have come: each once, those that are no longer to come. -/
structure Came (F : List FZ) (left : Lit → Bool) (L : List ByteArray) : Prop where
  nd : L.Nodup
  mem : ∀ s, s ∈ L ↔ (lookF F s).isSome = true ∧ left (.string (dat s)) = false
  sub : ∀ s, left (.string (dat s)) = true → (lookF F s).isSome = true
theorem Came.start (F : List FZ) : Came F (Maps.has (mapD F)) [] := by
  refine ⟨List.nodup_nil, fun s => ?_, fun s h => by rw [mapD_has] at h; exact h⟩
  rw [mapD_has]
  cases lookF F s <;> simp
theorem Came.step {F : List FZ} {left : Lit → Bool} {L : List ByteArray} {x : ByteArray} (h : Came F left L) (hx : left (.string (dat x)) = true) : Came F (fun z => left z && !z.sameKey (.string (dat x))) (L ++ [x]) := by
  have hnx : x ∉ L := fun k => by have := ((h.mem x).1 k).2; rw [hx] at this; cases this
  refine ⟨?_, fun s => ?_, fun s hs => ?_⟩
  · rw [List.nodup_append]
    exact ⟨h.nd, by simp, fun a ha b hb => by simp at hb; subst hb; exact fun e => hnx (e ▸ ha)⟩
  · rw [List.mem_append, h.mem, List.mem_singleton]
    simp only [same_dat]
    by_cases e : s = x
    · subst e; simp [hx, h.sub s hx]
    · simp [e]
  · simp only [Bool.and_eq_true] at hs
    exact h.sub s hs.1
theorem Came.fin {F : List FZ} (hF : oneEach F) {left : Lit → Bool} {L : List ByteArray} (h : Came F left L) (hl : ∀ kl, left kl = false) : sortD L = (namesF F).map dat ∧ L.length = F.length := by
  have hr : rising ((sortD L).map ofD) := by
    unfold rising
    rw [List.pairwise_map]
    have h1 := sortD_pw L
    have h2 : (sortD L).Nodup := by
      have hp : (sortD L).Perm (L.map dat) := List.mergeSort_perm _ _
      refine hp.nodup_iff.2 ?_
      exact (List.pairwise_map).2 (h.nd.imp fun h e => h (dat_inj e))
    refine (h1.and h2).imp ?_
    rintro x y ⟨h3, h4⟩
    show dat (ofD x) < dat (ofD y)
    rw [dat_of, dat_of]
    rcases lt_tri (ofD x) (ofD y) with h | h | h
    · have h' : dat (ofD x) < dat (ofD y) := h
      rw [dat_of, dat_of] at h'; exact h'
    · exact absurd (by have := congrArg dat h; rwa [dat_of, dat_of] at this) h4
    · have h' : dat (ofD y) < dat (ofD x) := h
      rw [dat_of, dat_of] at h'
      exact absurd h' (List.not_lt.2 h3)
  have e := rising_ext hr (names_rising hF) fun s => by
    rw [mem_names hF]
    have hp : (sortD L).Perm (L.map dat) := List.mergeSort_perm _ _
    rw [List.mem_map]
    constructor
    · rintro ⟨x, hx, rfl⟩
      obtain ⟨t, ht, rfl⟩ := List.mem_map.1 (hp.mem_iff.1 hx)
      rw [of_dat]
      exact ((h.mem t).1 ht).1
    · intro hs
      exact ⟨dat s, hp.mem_iff.2 (List.mem_map.2 ⟨s, (h.mem s).2 ⟨hs, hl _⟩, rfl⟩), of_dat s⟩
  have e2 := congrArg (List.map dat) e
  rw [List.map_map, show dat ∘ ofD = id from funext fun l => dat_of l, List.map_id] at e2
  refine ⟨e2, ?_⟩
  have := congrArg List.length e2
  rw [sortD_len] at this
  simpa [namesF] using this
theorem look_held {F : List FZ} {x : ByteArray} {c : Value} (h : ∀ zd : DataW Value, (mapD F).atKey (.string (dat x)) zd = .held c) : ∃ f, lookF F x = some f ∧ c = f.val := by
  have h1 := h .nil
  rw [mapD_at] at h1
  cases hl : lookF F x with
  | none => rw [hl] at h1; cases h1
  | some f => rw [hl] at h1; exact ⟨f, rfl, by injection h1 with h1; exact h1.symm⟩
theorem key_lit {x : ByteArray} {kl : Lit} (h : keyOf Try.prog 9 (.string x) = some kl) : kl = .string (dat x) := by
  simp [keyOf, Try.underlying9, mapKey] at h
  exact h.2.symm
def ListPost (w : World) (V : VZ) (e : Ending) (w' : World) : Prop :=
  ∃ D k, e = .returned (.slice D V.F.length k) ∧ w'.ownsRow w.heap.size 9 1 (.slice D V.F.length k) V.F.length (texts (namesF V.F)) ∧ Below w.heap.size w w'
set_option maxRecDepth 100000 in
set_option maxHeartbeats 8000000 in
theorem list_any (B a : Nat) (V : VZ) (w : World) (h : VRep w B a V) : Calls Try.prog 27 #[.pointer (some ⟨a, 0, none⟩)] w (ListPost w V) := by
  have HH := Lib.hid h
  obtain ⟨nn, hown⟩ := h.core.map
  have HOWN := Lib.hid hown
  have hl200 := h.len
  have hs16 : ∀ f ∈ V.F, f.name.size ≤ 12 := h.name
  have c2 := h.core.blk.cell 2
  simp at c2
  obtain ⟨i0, hi0, hz0, hz1, hz2⟩ := info_parts info9
  have HS16 := Lib.hid hs16
  clear h hown hs16
  go_enter Try.func27, Try.ntmps27
  go_wp2_with (first
    | (at_range; refine wpList_range_own _ rfl _ 55 rfl 9 63 keyed9 Try.underlying55 heldR V.b nn (mapD V.F) rfl HOWN.out ?_; intro w0 hrg0 hg0 hs0)
    | go_in)
  go_frame
  go_loopw [3] (fun v3 wr => ∃ (left : Lit → Bool) (cnt j c : Nat) (A' : Option Addr) (L : List ByteArray), v3 = .slice A' j c ∧ Hid (wr.ranges Try.prog 9 heldR V.b w.heap.size nn (mapD V.F) left cnt) ∧ Hid (Came V.F left L) ∧ Hid (j + cnt ≤ V.F.length ∧ j = L.length) ∧ Hid (wr.ownsRow (w.heap.size + 1) 9 1 (.slice A' j c) j (texts L)) ∧ Hid (Below w.heap.size w wr) ∧ Hid (w.heap.size + 1 ≤ wr.heap.size)) (fun _ wr => wr.rangeLeft V.b w.heap.size)
  case atStart => exact ⟨_, _, 0, 0, none, [], rfl, Lib.hid hrg0, Lib.hid (Came.start _), Lib.hid ⟨by rw [mapD_size]; omega, rfl⟩, Lib.hid (World.ownsRow_nil _ _ _ _), Lib.hid ((Below.refl w.heap.size w).grown hg0 (Nat.le_refl _) (fun j hj => by cases hj)), Lib.hid (by omega)⟩
  case round =>
    clear hrg0 hg0 hs0
    obtain ⟨left, cnt, j, c, A', L, rfl, HRG, HCM, HJ, HO, HB, HSZ⟩ := hrel
    go_wp2_with (first
      | (at_next; refine wpList_next_ranges _ rfl _ rfl 9 keyed9 heldR Value.string (id : Value → Value) (fun key kl hk => Maps.keyOf_string_inv Try.underlying9 hk) (fun v y hv => ⟨v, rfl⟩) V.b w.heap.size nn (mapD V.F) left cnt rfl HRG.out ?_ ?_)
      | go_in)
    · intro hc0 hl0
      have hfin := HCM.out.fin HH.out.core.one hl0
      have hjl : j = V.F.length := by have := HJ.out.2; rw [this]; exact hfin.2
      have HFIN := Lib.hid hfin
      have HJL := Lib.hid hjl
      have HSO := Lib.hid (sort_own w.heap.size (.slice A' j c) j L wr (own_less HO.out (Nat.le_succ _)) (by omega))
      clear hfin hjl
      go_wp2_with (go_at_call 47; refine HSO.out.mono ?_; rintro e w3 ⟨rfl, ho, hb⟩; have HO3 := Lib.hid ho; have HB3 := Lib.hid hb; clear ho hb)
      go_ret
      refine ⟨A', c, by rw [← HJL.out]; rfl, ?_, HB.out.trans HB3.out⟩
      rw [← HJL.out]
      have := HO3.out
      rw [HFIN.out.1, ← texts_enc] at this
      exact this
    · intro x cv kl y ps w1 cnt1 hkey hlk hv hat hrg1 hlt hg1 hs1 hen
      obtain rfl := key_lit hkey
      have hy : y = .held cv := by unfold heldR at hv; injection hv with hv; injection hv with hv _; exact hv.symm
      subst hy
      obtain ⟨f, hf1, rfl⟩ := look_held hat
      have HSTEP := Lib.hid (HCM.out.step hlk)
      have HRG1 := Lib.hid hrg1
      have HLT := Lib.hid hlt
      have HB1 := Lib.hid (show Below w.heap.size w w1 from HB.out.grown hg1 HB.out.size (fun j hj => by cases hj; exact Nat.le_refl _))
      have HO1 := Lib.hid (show w1.ownsRow (w.heap.size + 1) 9 1 (.slice A' j c) j (texts L) from HO.out.kept hg1 (.inr (own_apart HO.out (Nat.lt_succ_self _))))
      have HS1 := Lib.hid hs1
      have hj16 : (j + 1) * 16 ≤ 140737488355328 := by have := HJ.out; omega
      have hjm : j + 1 ≤ maxLen := by unfold maxLen; omega
      have HEN := Lib.hid hen
      have HSZ1 := Lib.hid (show w.heap.size + 1 ≤ w1.heap.size by have := HSZ.out; omega)
      have hen2 : (Instr.entry (.pointer (some ⟨w.heap.size, 0, none⟩))).run Try.prog w1 = .ok (.tuple #[.string x, f.val]) w1 := hen
      clear hkey hlk hv hat hrg1 hlt hg1 hs1 hen hf1
      go_upto_region 7 with fail
      go_wp2_with (at_builtin; refine wpList_append_own_at _ rfl _ _ 49 rfl (w.heap.size + 1) 9 i0 (.string ⟨#[]⟩) 1 16 Try.underlying49 hi0 hz0 hz1 hz2 rfl (by decide) (.slice A' j c) j (texts L) rfl (HO1.out.alloc _) ⟨w1.heap.size, 0, none⟩ 1 1 [.string x] rfl rfl (Row.made rfl rfl).at' (by intro u hu; simp at hu; subst hu; rfl) hjm hj16 (by have := HSZ1.out; simp; omega) ?_; intro v3 w3 ho3 hg3 _ _; obtain ⟨A3, c3, rfl⟩ := own_is ho3; have HO3 := Lib.hid ho3; have HG3 := Lib.hid hg3; clear ho3 hg3)
      have hne : (Value.slice A' j c).ownBlock ≠ some w.heap.size := own_apart HO1.out (Nat.lt_succ_self _)
      have hlt2 : w.heap.size < w1.heap.size := by have := HSZ1.out; omega
      have hg2 : w1.grownBy w3 (Value.slice A' j c).ownBlock := ⟨HG3.out.os, HG3.out.tape, HG3.out.output, by have := HG3.out.size; simp at this; omega, fun i hi hne => (HG3.out.block i (by simp; omega) hne).trans (Below.heap_alloc _ _ _ hi)⟩
      have hvb : some V.b ≠ (Value.slice A' j c).ownBlock := fun e => by
        have h1 := HO1.out.lt V.b e.symm
        rcases HO1.out.2 with ⟨e2, _⟩ | ⟨g, cap, cur, e2, e3, _⟩
        · rw [e2] at e; cases e
        · rw [e2] at e
          have := HH.out.core.lb
          simp [Value.ownBlock] at e
          omega
      have HRG3 := Lib.hid (HRG1.out.kept hg2 hvb (fun e => hne e.symm))
      have HB3 := Lib.hid (show Below w.heap.size w w3 from HB1.out.grown hg2 (by omega) (fun k hk => by
        rcases HO1.out.2 with ⟨e2, _⟩ | ⟨g, cap, cur, e2, e3, _⟩
        · rw [e2] at hk; cases hk
        · rw [e2] at hk
          simp [Value.ownBlock] at hk
          omega))
      have HSZ3 := Lib.hid (show w.heap.size + 1 ≤ w3.heap.size by have := hg2.size; omega)
      clear hne hlt2 hg2 hvb hen2
      go_roundw
      case rel => exact ⟨_, cnt1, j + 1, c3, A3, L ++ [x], rfl, HRG3, HSTEP, Lib.hid ⟨by have := HJ.out; have := HLT.out; omega, by rw [List.length_append]; have := HJ.out; simp; omega⟩, by have h := HO3; rw [show texts L ++ [Value.string x] = texts (L ++ [x]) by simp [texts]] at h; exact h, HB3, HSZ3⟩
      case measure => rw [HRG3.out.left_eq, HRG.out.left_eq]; exact HLT.out
end Go.Proofs.Ytaahomohhagcoaa
