/- Read, List. -/
import Derived.Test.YthogafecplhckaaDoorVJ
import Derived.Sort.OwnSorted
import Derived.Sort.MapsRangeIn
import Derived.Lib.SlicesCompact
namespace Go.Proofs.YthogafecplhckaaDoor
open Go.RowKit Go.Maps Go.Shelf Go.Lib
set_option linter.unusedSimpArgs false
set_option linter.unusedVariables false
def sortD (L : List ByteArray) : List (List UInt8) := (L.map dat).mergeSort fun x y => decide (x ≤ y)
theorem sortD_len (L : List ByteArray) : (sortD L).length = L.length := by unfold sortD; rw [List.length_mergeSort, List.length_map]
theorem sortD_pw (L : List ByteArray) : (sortD L).Pairwise (· ≤ ·) := by
  have := List.pairwise_mergeSort (le := fun x y : List UInt8 => decide (x ≤ y)) (fun a b c h1 h2 => by simp at *; exact List.le_trans h1 h2) (fun a b => by
    rcases List.le_total a b with h | h <;> simp [h]) (L.map dat)
  exact this.imp fun h => of_decide_eq_true h
theorem texts_enc (L : List ByteArray) : texts L = (L.map dat).map encStr := by
  simp only [texts, List.map_map]
  refine List.map_congr_left fun s _ => ?_
  show Value.string s = Value.string (ofD (dat s))
  rw [of_dat]
theorem texts_ofD (zs : List (List UInt8)) : zs.map encStr = texts (zs.map ofD) := by
  have e : dat ∘ ofD = id := funext fun l => dat_of l
  have e2 : (zs.map ofD).map dat = zs := by rw [List.map_map, e, List.map_id]
  rw [texts_enc, e2]
def VReadPost (w : World) (V : VZ) (s : ByteArray) (e : Ending) (w' : World) : Prop :=
  ∃ D n k, e = .returned (.tuple #[.slice D n k, .bool (lookF V.F s).isSome]) ∧ w'.ownsRow w.heap.size 5 1 (.slice D n k) n (u8s (lkF V.F s).bs) ∧ n = (lkF V.F s).bs.length ∧ n ≤ 16777216 ∧ Below w.heap.size w w'
set_option maxRecDepth 100000 in
set_option maxHeartbeats 8000000 in
theorem read_any (B a : Nat) (V : VZ) (s : ByteArray) (w : World) (h : VRep w B a V) (hs : s.size ≤ 9223372036854775807) :
    Calls Tryd.prog 25 #[.pointer (some ⟨a, 0, none⟩), .string s] w (VReadPost w V s) := by
  have hlo := (lk_own h s).1
  have hle := lk_le s h.core.one
  have hlook := (look_run h.core s hs 0).2
  obtain ⟨f, hf⟩ : ∃ f, f = lkF V.F s := ⟨_, rfl⟩
  rw [← hf] at hlo hle hlook
  have HF := Lib.hid hf
  have hn := hlo.n
  have c2 := h.core.blk.cell 2
  simp at c2
  have HU := Lib.hid (show f.n ≤ 16777216 by have := h.core.used; omega)
  obtain ⟨th, hth⟩ : ∃ th, th = (lookF V.F s).isSome := ⟨_, rfl⟩
  rw [← hth] at hlook
  have HTH := Lib.hid hth
  obtain ⟨nm, fA, fn, fc, fs, fb⟩ := f
  obtain ⟨A', c', e, hr, hc, ha⟩ := own_slice hlo
  cases e
  have hlook2 : (Instr.lookup 64 (.map (some V.b)) (.string s) true).run Tryd.prog w = .ok (.tuple #[.agg #[.slice fA fn fc, .int .i64 fs], .bool th]) w := hlook
  have HN := Lib.hid hn
  have HC := Lib.hid (show ∀ w1, Below w.heap.size w w1 → Calls Tryd.prog 53 #[.slice fA fn fc] w1 _ from fun w1 hb => cloneB_any fA fn fc (u8s fb) w1 (hr.keep (Nat.le_refl _) hb) (by rw [u8s_len]; simp only at hn; omega) (one_u8s _) hc ha (by have := HU.out; simp only at this; omega))
  have HB2 := Lib.hid (show Below w.heap.size w (w.alloc (.cells #[.slice fA fn fc, .int .i64 fs] 70)) from bpush (Below.refl _ _) _)
  clear hlook hlo hle hf hn hth h hr hc ha
  go_enter Tryd.func25, Tryd.ntmps25
  go_wp2_with (go_at_call 53; refine (HC.out _ HB2.out).mono ?_; rintro e w2 ⟨D, k, rfl, ho, hb⟩; have HO := Lib.hid ho; have HB := Lib.hid hb; clear ho hb)
  go_ret2
  exact ⟨D, fn, k, by rw [← HTH.out]; rfl, by rw [← HF.out]; exact own_less HO.out HB2.out.size, by rw [← HF.out]; exact HN.out, HU.out, bthen HB2.out HB.out⟩
def namesF (F : List FZ) : List ByteArray := F.map FZ.name
theorem names_rising {F : List FZ} (h : oneEach F) : rising (namesF F) := by
  unfold namesF rising
  rw [List.pairwise_map]
  exact h.imp fun h => (bb_lt _ _).1 h
theorem mem_names {F : List FZ} (h : oneEach F) {s : ByteArray} : s ∈ namesF F ↔ (lookF F s).isSome = true := by
  unfold namesF
  rw [List.mem_map]
  constructor
  · rintro ⟨f, hf, rfl⟩
    rw [look_some h hf]; rfl
  · intro hs
    obtain ⟨f, hf⟩ := Option.isSome_iff_exists.1 hs
    obtain ⟨h1, h2⟩ := look_name hf
    exact ⟨f, h2, h1⟩
theorem same_dat (s t : ByteArray) : (Lit.string (dat t)).sameKey (.string (dat s)) = decide (t = s) := by
  show (dat t == dat s) = _
  by_cases h : t = s
  · subst h; simp
  · rw [decide_eq_false h]
    exact beq_eq_false_iff_ne.2 fun e => h (dat_inj e)
/-- The names that have come: each once, those that are no longer to come. -/
structure Came (F : List FZ) (left : Lit → Bool) (L : List ByteArray) : Prop where
  nd : L.Nodup
  mem : ∀ s, s ∈ L ↔ (lookF F s).isSome = true ∧ left (.string (dat s)) = false
  sub : ∀ s, left (.string (dat s)) = true → (lookF F s).isSome = true
theorem Came.start (F : List FZ) : Came F (Maps.has (mapD F)) [] := by
  refine ⟨List.nodup_nil, fun s => ?_, fun s h => by rw [mapD_has] at h; exact h⟩
  rw [mapD_has]
  cases lookF F s <;> simp
theorem Came.step {F : List FZ} {left : Lit → Bool} {L : List ByteArray} {x : ByteArray} (h : Came F left L) (hx : left (.string (dat x)) = true) : Came F (fun z => left z && !z.sameKey (.string (dat x))) (L ++ [x]) := by
  have hnx : x ∉ L := fun k => by have := ((h.mem x).1 k).2; rw [hx] at this; cases this
  refine ⟨?_, fun s => ?_, fun s hs => ?_⟩
  · rw [List.nodup_append]
    exact ⟨h.nd, by simp, fun a ha b hb => by simp at hb; subst hb; exact fun e => hnx (e ▸ ha)⟩
  · rw [List.mem_append, h.mem, List.mem_singleton]
    simp only [same_dat]
    by_cases e : s = x
    · subst e; simp [hx, h.sub s hx]
    · simp [e]
  · simp only [Bool.and_eq_true] at hs
    exact h.sub s hs.1
theorem Came.fin {F : List FZ} (hF : oneEach F) {left : Lit → Bool} {L : List ByteArray} (h : Came F left L) (hl : ∀ kl, left kl = false) : sortD L = (namesF F).map dat ∧ L.length = F.length := by
  have hr : rising ((sortD L).map ofD) := by
    unfold rising
    rw [List.pairwise_map]
    have h1 := sortD_pw L
    have h2 : (sortD L).Nodup := by
      have hp : (sortD L).Perm (L.map dat) := List.mergeSort_perm _ _
      refine hp.nodup_iff.2 ?_
      exact (List.pairwise_map).2 (h.nd.imp fun h e => h (dat_inj e))
    refine (h1.and h2).imp ?_
    rintro x y ⟨h3, h4⟩
    show dat (ofD x) < dat (ofD y)
    rw [dat_of, dat_of]
    rcases lt_tri (ofD x) (ofD y) with h | h | h
    · have h' : dat (ofD x) < dat (ofD y) := h
      rw [dat_of, dat_of] at h'; exact h'
    · exact absurd (by have := congrArg dat h; rwa [dat_of, dat_of] at this) h4
    · have h' : dat (ofD y) < dat (ofD x) := h
      rw [dat_of, dat_of] at h'
      exact absurd h' (List.not_lt.2 h3)
  have e := rising_ext hr (names_rising hF) fun s => by
    rw [mem_names hF]
    have hp : (sortD L).Perm (L.map dat) := List.mergeSort_perm _ _
    rw [List.mem_map]
    constructor
    · rintro ⟨x, hx, rfl⟩
      obtain ⟨t, ht, rfl⟩ := List.mem_map.1 (hp.mem_iff.1 hx)
      rw [of_dat]
      exact ((h.mem t).1 ht).1
    · intro hs
      exact ⟨dat s, hp.mem_iff.2 (List.mem_map.2 ⟨s, (h.mem s).2 ⟨hs, hl _⟩, rfl⟩), of_dat s⟩
  have e2 := congrArg (List.map dat) e
  rw [List.map_map, show dat ∘ ofD = id from funext fun l => dat_of l, List.map_id] at e2
  refine ⟨e2, ?_⟩
  have := congrArg List.length e2
  rw [sortD_len] at this
  simpa [namesF] using this
theorem look_held {F : List FZ} {x : ByteArray} {c : Value} (h : ∀ zd : DataW Value, (mapD F).atKey (.string (dat x)) zd = .held c) : ∃ f, lookF F x = some f ∧ c = f.val := by
  have h1 := h .nil
  rw [mapD_at] at h1
  cases hl : lookF F x with
  | none => rw [hl] at h1; cases h1
  | some f => rw [hl] at h1; exact ⟨f, rfl, by injection h1 with h1; exact h1.symm⟩
theorem key_lit {x : ByteArray} {kl : Lit} (h : keyOf Tryd.prog 9 (.string x) = some kl) : kl = .string (dat x) := by
  simp [keyOf, Tryd.underlying9, mapKey] at h
  exact h.2.symm
def ListPost (w : World) (V : VZ) (e : Ending) (w' : World) : Prop :=
  ∃ D k, e = .returned (.slice D V.F.length k) ∧ w'.ownsRow w.heap.size 9 1 (.slice D V.F.length k) V.F.length (texts (namesF V.F)) ∧ Below w.heap.size w w'
end Go.Proofs.YthogafecplhckaaDoor
