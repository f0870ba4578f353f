/- What a crash and a copy make of a file. A vault of its own, each file as a closure makes it. Crash and Copy: vaults of their own. -/
import Derived.Test.YthogafecplhckaaDoorVFK
namespace Go.Proofs.YthogafecplhckaaDoor
open Go.RowKit Go.Maps Go.Shelf
set_option linter.unusedSimpArgs false
set_option linter.unusedVariables false
def kOf (t : Int) (n safe : Nat) : Nat := safe + min t.toNat (n - safe)
theorem enter36 : ∀ args w, (callFunc 38 args).run Tryd.prog w = .ok (.enter 38 args) w := fun args w => by kernel_rfl
theorem enter37 : ∀ args w, (callFunc 37 args).run Tryd.prog w = .ok (.enter 37 args) w := fun args w => by kernel_rfl
set_option maxRecDepth 100000 in
set_option maxHeartbeats 4000000 in
theorem crash1_any (kb : Nat) (t : Int) (A : Option Addr) (n c safe : Nat) (w : World) (hk : w.cell? ⟨kb, 0, none⟩ = some (.int .i64 t)) (hs : safe ≤ n) (hc : n ≤ c) (ha : A = none → c = 0) (hn : n ≤ 16777216) (h1 : -9223372036854775808 ≤ t) (h2 : t ≤ 9223372036854775807) :
    Calls Tryd.prog 38 (#[.agg #[.slice A n c, .int .i64 safe]] ++ #[.pointer (some ⟨kb, 0, none⟩)]) w fun e w' => e = .returned (.agg #[.slice A (kOf t n safe) c, .int .i64 (kOf t n safe : Int)]) ∧ Below w.heap.size w w' := by
  show Calls Tryd.prog 38 #[.agg #[.slice A n c, .int .i64 safe], .pointer (some ⟨kb, 0, none⟩)] w _
  obtain ⟨m, hm⟩ : ∃ m, m = kOf t n safe := ⟨_, rfl⟩
  rw [← hm]
  obtain ⟨w1, hw1⟩ : ∃ w1, w1 = (w.alloc (.cells #[.slice A n c, .int .i64 safe] 70)).alloc (.cells #[.slice none 0 0, .int .i64 0] 70) := ⟨_, rfl⟩
  have hb1 : Below w.heap.size w w1 := by rw [hw1]; exact bpush (bpush (Below.refl _ _) _) _
  have hkb : w1.cell? ⟨kb, 0, none⟩ = some (.int .i64 t) := cell_on hb1 hk
  have HB1 := Lib.hid hb1
  have HM := Lib.hid hm
  have HK2 := Lib.hid (show Blk w1 w.heap.size 70 #[.slice A n c, .int .i64 safe] by rw [hw1]; exact (Blk.new _ _ _).alloc _)
  have HK3 := Lib.hid (show Blk w1 (w.heap.size + 1) 70 #[.slice none 0 0, .int .i64 0] by
    rw [hw1]; have := Blk.new (w.alloc (.cells #[.slice A n c, .int .i64 safe] 70)) 70 #[.slice none 0 0, .int .i64 0]; simpa using this)
  have HW1 := Lib.hid hw1
  have b0 := HK2.out.cell 0
  have b1 := HK2.out.cell 1
  have z0 := HK3.out.cell 0
  have z1 := HK3.out.cell 1
  have f0 := HK3.out.frozen 0
  have f1 := HK3.out.frozen 1
  simp at b0 b1 z0 z1
  obtain ⟨w3, hw3⟩ : ∃ w3, w3 = (w1.setCell ⟨w.heap.size + 1, 0, none⟩ (.slice A m c)).setCell ⟨w.heap.size + 1, 1, none⟩ (.int .i64 m) := ⟨_, rfl⟩
  have HK4 := Lib.hid (show Blk w3 (w.heap.size + 1) 70 #[.slice A m c, .int .i64 m] by rw [hw3]; exact (HK3.out.set_ 0 _).set_ 1 _)
  have HB3 := Lib.hid (show Below w.heap.size w w3 by rw [hw3]; exact bset (bset hb1 (by omega) _) (by omega) _)
  have q0 := HK4.out.cell 0
  have q1 := HK4.out.cell 1
  simp at q0 q1
  have HQ := Lib.hid (And.intro q0 q1)
  have HW3 := Lib.hid hw3
  obtain ⟨d, hdd⟩ : ∃ d, d = n - safe := ⟨_, rfl⟩
  have hd : (n : Int) - (safe : Int) = (d : Int) := by omega
  have hmn : m ≤ n := by rw [hm]; unfold kOf; omega
  have hmc : m ≤ c := by omega
  have hmm : (safe : Int) + min (max t 0) (d : Int) = (m : Int) := by rw [hm]; unfold kOf; omega
  have hsd : safe + d ≤ 16777216 := by omega
  clear hw1 hb1 hm hk hw3 q0 q1 hdd
  go_enter Tryd.func38, Tryd.ntmps38
  go_upto_region 1 with fail
  rw [← HW1.out]
  go_wp2_with fail
  rw [← HW3.out]
  obtain ⟨q0, q1⟩ := HQ.out
  exact bodyPost_ret (v := .agg #[.slice A m c, .int .i64 m]) (by simp [results, Tryd.results38, go_sem, q0, q1]) rfl ⟨rfl, HB3.out⟩
end Go.Proofs.YthogafecplhckaaDoor
namespace Go.Proofs.YthogafecplhckaaDoor
open Go.RowKit Go.Maps Go.Shelf Go.Lib
set_option linter.unusedSimpArgs false
set_option linter.unusedVariables false
theorem _root_.Go.World.ranges.fr {w w' : World} {b r n : Nat} {D : DataW Value} {left : Lit → Bool} {cnt : Nat} {S : Nat → Prop} (h : w.ranges Tryd.prog 9 heldR b r n D left cnt) (hf : Fr S w w') (hb : ¬ S b) (hr : ¬ S r) : w'.ranges Tryd.prog 9 heldR b r n D left cnt := by
  have h1 := h.owns.lt
  have h2 := h.lt
  obtain ⟨es, clock, since, seen, c0, e, F, hs, hD, e2, rest⟩ := h
  exact ⟨es, clock, since, seen, c0, (hf.block b h1 hb).trans e, F, hs, hD, (hf.block r h2 hr).trans e2, rest⟩
theorem look_ins {f : FZ} {s : ByteArray} : ∀ {F : List FZ}, (∀ g ∈ F, g.name ≠ f.name) → lookF (insF f F) s = if f.name = s then some f else lookF F s := by
  intro F
  induction F with
  | nil =>
    intro _
    show List.find? _ [f] = _
    by_cases h : f.name = s
    · rw [if_pos h, List.find?_cons_of_pos (by rw [h]; simp)]
    · rw [if_neg h, List.find?_cons_of_neg (by simp only [beq_iff_eq]; exact fun e => h (dat_inj e))]; rfl
  | cons g F ih =>
    intro hn
    rw [ins_cons]
    have ih' := ih fun x hx => hn x (List.mem_cons_of_mem _ hx)
    have hg := hn g (List.mem_cons_self ..)
    split
    · by_cases h : f.name = s
      · rw [if_pos h]
        show List.find? _ (f :: g :: F) = _
        rw [List.find?_cons_of_pos (by rw [h]; simp)]
      · rw [if_neg h]
        show List.find? _ (f :: g :: F) = List.find? _ (g :: F)
        rw [List.find?_cons_of_neg (by simp only [beq_iff_eq]; exact fun e => h (dat_inj e))]
    · by_cases h2 : g.name = s
      · rw [if_neg (fun e => hg (h2.trans e.symm))]
        show List.find? _ (g :: insF f F) = List.find? _ (g :: F)
        rw [List.find?_cons_of_pos (by rw [h2]; simp), List.find?_cons_of_pos (by rw [h2]; simp)]
      · have hx : ¬ ((dat g.name == dat s) = true) := by simp only [beq_iff_eq]; exact fun e => h2 (dat_inj e)
        show List.find? _ (g :: insF f F) = if f.name = s then some f else List.find? _ (g :: F)
        rw [List.find?_cons_of_neg (p := fun f : FZ => dat f.name == dat s) hx, List.find?_cons_of_neg (p := fun f : FZ => dat f.name == dat s) hx]
        exact ih'
theorem look_drop {F : List FZ} {s t : ByteArray} : lookF (dropF F t) s = if s = t then none else lookF F s := by
  unfold lookF dropF
  induction F with
  | nil => simp
  | cons g F ih =>
    by_cases h : g.name = t
    · rw [List.filter_cons_of_neg (by rw [h]; simp), ih]
      by_cases hs : s = t
      · rw [if_pos hs, if_pos hs]
      · rw [if_neg hs, if_neg hs, List.find?_cons_of_neg (by simp only [beq_iff_eq]; exact fun e => hs (dat_inj e ▸ h))]
    · have hp : (!(dat g.name == dat t)) = true := by simp only [Bool.not_eq_true', beq_eq_false_iff_ne]; exact fun e => h (dat_inj e)
      rw [List.filter_cons_of_pos (p := fun f : FZ => !(dat f.name == dat t)) hp]
      by_cases h2 : g.name = s
      · rw [List.find?_cons_of_pos (by rw [h2]; simp), List.find?_cons_of_pos (by rw [h2]; simp), if_neg (fun e => h (h2.trans e))]
      · have hx : ¬ ((dat g.name == dat s) = true) := by simp only [beq_iff_eq]; exact fun e => h2 (dat_inj e)
        rw [List.find?_cons_of_neg (p := fun f : FZ => dat f.name == dat s) hx, List.find?_cons_of_neg (p := fun f : FZ => dat f.name == dat s) hx]
        exact ih
theorem look_put {F : List FZ} {f : FZ} {s : ByteArray} : lookF (putF F f) s = if f.name = s then some f else lookF F s := by
  unfold putF
  rw [look_ins fun g hg => (mem_drop.1 hg).2]
  by_cases h : f.name = s
  · rw [if_pos h, if_pos h]
  · rw [if_neg h, if_neg h, look_drop, if_neg (fun e => h e.symm)]
theorem look_ext {F G : List FZ} (hF : oneEach F) (hG : oneEach G) (h : ∀ s, lookF F s = lookF G s) : F = G := by
  have e : namesF F = namesF G := rising_ext (names_rising hF) (names_rising hG) fun s => by rw [mem_names hF, mem_names hG, h]
  have hl : F.length = G.length := by have := congrArg List.length e; simpa [namesF] using this
  refine List.ext_getElem hl fun i hi hj => ?_
  have h1 := look_some hF (List.getElem_mem hi)
  have h2 := look_some hG (List.getElem_mem hj)
  have e2 : F[i].name = G[i].name := by
    have h3 : (namesF F)[i]'(by simpa [namesF] using hi) = (namesF G)[i]'(by simpa [namesF] using hj) := by simp only [e]
    simpa [namesF] using h3
  rw [e2, h, h2] at h1
  injection h1 with h1
  exact h1.symm
def chF (k : Nat → Nat → Nat × Nat) (f : FZ) : FZ := { f with n := (k f.n f.safe).1, safe := (k f.n f.safe).2, bs := f.bs.take (k f.n f.safe).1 }
theorem chF_norm (k : Nat → Nat → Nat × Nat) (f : FZ) : normF (chF k f) = chF k (normF f) := rfl
theorem one_ch {k : Nat → Nat → Nat × Nat} {F : List FZ} (h : oneEach F) : oneEach (F.map fun f => normF (chF k f)) := by
  unfold oneEach
  rw [List.pairwise_map]
  exact h
theorem look_ch {k : Nat → Nat → Nat × Nat} (F : List FZ) (s : ByteArray) : lookF (F.map fun f => normF (chF k f)) s = (lookF F s).map fun f => normF (chF k f) := by
  unfold lookF; rw [List.find?_map]; rfl
def remF (F : List FZ) (left : Lit → Bool) : List FZ := F.filter fun f => left (.string (dat f.name))
structure Made (k : Nat → Nat → Nat × Nat) (F : List FZ) (left : Lit → Bool) (G : List FZ) : Prop where
  look : ∀ s, lookF (G.map normF) s = if left (.string (dat s)) = true then none else (lookF F s).map fun f => normF (chF k f)
  used : usedF G + usedF (remF F left) ≤ usedF F
  len : G.length + (remF F left).length ≤ F.length
theorem Made.start (k : Nat → Nat → Nat × Nat) (F : List FZ) : Made k F (Maps.has (mapD F)) [] := by
  have e : remF F (Maps.has (mapD F)) = F ∨ True := .inr trivial
  refine ⟨fun s => ?_, ?_, ?_⟩
  · rw [mapD_has]
    cases h : lookF F s <;> simp [lookF]
  · unfold remF usedF
    simp only [List.map_nil, List.sum_nil, Nat.zero_add]
    clear e
    generalize (fun f : FZ => Maps.has (mapD F) (.string (dat f.name))) = p
    induction F with
    | nil => exact Nat.le_refl _
    | cons g F ih =>
      rw [List.filter_cons]
      split
      · simp only [List.map_cons, List.sum_cons]; omega
      · simp only [List.map_cons, List.sum_cons]; omega
  · show 0 + _ ≤ _
    rw [Nat.zero_add]
    exact List.length_filter_le _ _
theorem rem_step {F : List FZ} {left : Lit → Bool} {x : ByteArray} : remF F (fun z => left z && !z.sameKey (.string (dat x))) = dropF (remF F left) x := by
  unfold remF dropF
  rw [List.filter_filter]
  refine List.filter_congr fun f _ => ?_
  show (left (.string (dat f.name)) && !(dat f.name == dat x)) = _
  rw [Bool.and_comm]
theorem Made.step {k : Nat → Nat → Nat × Nat} (hk : ∀ n s, (k n s).1 ≤ n) {F : List FZ} (hF : oneEach F) {left : Lit → Bool} {G : List FZ} {x : ByteArray} {f f2 : FZ} (h : Made k F left G) (hG : oneEach G) (hf : lookF F x = some f) (hx : left (.string (dat x)) = true) (hn : f2.name = x) (h2 : normF f2 = normF (chF k f)) :
    Made k F (fun z => left z && !z.sameKey (.string (dat x))) (putF G f2) := by
  have hfx := look_name hf
  have hlr : lookF (remF F left) x = some f := by
    have h1 := look_some (hF.filter fun f => left (.string (dat f.name))) (f := f) (by rw [List.mem_filter]; exact ⟨hfx.2, by rw [hfx.1]; exact hx⟩)
    rw [hfx.1] at h1
    exact h1
  have hro : oneEach (remF F left) := hF.filter _
  have hn2 : f2.n = (k f.n f.safe).1 := congrArg FZ.n h2
  have hlx : lookF G x = none := by
    have h1 := h.look x
    rw [if_pos hx, norm_look, Option.map_eq_none_iff] at h1
    exact h1
  refine ⟨fun s => ?_, ?_, ?_⟩
  · rw [norm_put, look_put]
    by_cases hs : s = x
    · subst hs
      have e : (normF f2).name = s := hn
      rw [if_pos e, hf, h2]
      simp [same_dat]
    · have e : ¬ (normF f2).name = s := fun e => hs (e.symm.trans hn)
      rw [if_neg e, h.look s]
      simp only [same_dat, hs, decide_false, Bool.not_false, Bool.and_true]
  · have h1 := used_put hG f2
    rw [hn, hlx] at h1
    simp only [Option.map_none, Option.getD_none, Nat.add_zero] at h1
    have h3 := used_drop (s := x) hro
    rw [hlr] at h3
    simp only [Option.map_some, Option.getD_some] at h3
    rw [rem_step]
    have := h.used
    have := hk f.n f.safe
    omega
  · have h1 := len_put G f2
    have h3 := len_drop_some hlr
    rw [rem_step]
    have := h.len
    omega
theorem Made.fin {k : Nat → Nat → Nat × Nat} {F : List FZ} (hF : oneEach F) {left : Lit → Bool} {G : List FZ} (h : Made k F left G) (hG : oneEach G) (hl : ∀ kl, left kl = false) : G.map normF = F.map fun f => normF (chF k f) := by
  refine look_ext ?_ (one_ch hF) fun s => ?_
  · unfold oneEach; rw [List.pairwise_map]; exact hG
  · rw [h.look s, hl, look_ch]; simp
theorem Row.takeV {w : World} {A : Option Addr} {xs : List Value} (h : Row w A xs) (n : Nat) : Row w A (xs.take n) := by
  rcases h with h | ⟨b, off, rfl, hc⟩
  · exact .inl (by rw [h]; simp)
  · refine .inr ⟨b, off, rfl, fun j u hu => hc j u ?_⟩
    rw [List.getElem?_take] at hu
    split at hu
    · exact hu
    · cases hu
def likeS (k : Nat → Nat → Nat × Nat) (P : VZ) : VZ := ⟨P.room, false, 0, 0, P.F.map (chF k)⟩
def LikePost (w : World) (k : Nat → Nat → Nat × Nat) (V : VZ) (e : Ending) (w' : World) : Prop :=
  ∃ V', e = .returned (.pointer (some ⟨w.heap.size + 1, 0, none⟩)) ∧ normZ V' = likeS k (normZ V) ∧ VRep w' w.heap.size (w.heap.size + 1) V' ∧ Below w.heap.size w w'
set_option maxRecDepth 100000 in
set_option maxHeartbeats 16000000 in
theorem like_any (k : Nat → Nat → Nat × Nat) (g : Nat) (lb : Array Value) (B a : Nat) (V : VZ) (w : World) (h : VRep w B a V) (hk : ∀ n s, s ≤ n → (k n s).1 ≤ n ∧ (k n s).2 ≤ (k n s).1) (hkn : ∀ n s, (k n s).1 ≤ n) (eg : ∀ args w, (callFunc g args).run Tryd.prog w = .ok (.enter g args) w)
    (hg : ∀ W (A : Option Addr) (n c safe : Nat), Below w.heap.size w W → safe ≤ n → n ≤ c → (A = none → c = 0) → n ≤ 16777216 → Calls Tryd.prog g (#[.agg #[.slice A n c, .int .i64 safe]] ++ lb) W fun e W' => e = .returned (.agg #[.slice A (k n safe).1 c, .int .i64 ((k n safe).2 : Int)]) ∧ Below W.heap.size W W') :
    Calls Tryd.prog 37 #[.pointer (some ⟨a, 0, none⟩), .func (.func g) #[] lb] w (LikePost w k V) := by
  have HH := Lib.hid h
  have HG := Lib.hid hg
  have HK := Lib.hid hk
  have HKN := Lib.hid hkn
  have hmm := @run_makeMap Tryd.prog
  obtain ⟨nn, hown⟩ := h.core.map
  have c0 := h.core.blk.cell 0
  have c2 := h.core.blk.cell 2
  simp at c0 c2
  obtain ⟨w1, hw1⟩ : ∃ w1, w1 = (w.alloc (.map #[] 0)).alloc (.cells #[.int .i64 V.room, .int .i64 0, .map (some w.heap.size), .bool false, .int .i64 0] 66) := ⟨_, rfl⟩
  have hb1 : Below w.heap.size w w1 := by rw [hw1]; exact bpush (bpush (Below.refl _ _) _) _
  have hz1 : w1.heap.size = w.heap.size + 2 := by rw [hw1]; simp
  have HOWN := Lib.hid (show w1.ownsMap Tryd.prog 9 heldR V.b nn (mapD V.F) by rw [hw1]; exact (hown.alloc _).alloc _)
  have HV1 := Lib.hid (show VRep w1 w.heap.size (w.heap.size + 1) ⟨V.room, false, 0, w.heap.size, []⟩ from by
    refine ⟨⟨?_, ⟨0, ?_⟩, List.Pairwise.nil, Nat.zero_le _, h.core.room, Nat.zero_le _, Nat.zero_le _⟩, (fun f hf => by cases hf), List.Pairwise.nil, (fun f hf => by cases hf), (fun f hf => by cases hf), (fun f hf => by cases hf), Nat.le_succ _, Nat.le_refl _, Nat.zero_le _, Nat.zero_le _⟩
    · have h5 := Blk.new (w.alloc (.map #[] 0)) 66 #[.int .i64 (V.room : Int), .int .i64 0, .map (some w.heap.size), .bool false, .int .i64 0]
      have h6 : (w.alloc (.map #[] 0)).heap.size = w.heap.size + 1 := by simp
      rw [h6] at h5
      rw [hw1]
      exact h5
    · rw [hw1]; exact (World.ownsMap_made w Tryd.prog 9 heldR).alloc _)
  have HB1 := Lib.hid hb1
  have HW1 := Lib.hid hw1
  have HZ1 := Lib.hid hz1
  clear h hg hk hkn hown hw1 hb1
  go_enter Tryd.func37, Tryd.ntmps37
  go_upto_region 2 with fail
  rw [← HW1.out]
  have d2 : w1.cell? ⟨a, 2, none⟩ = some (.map (some V.b)) := cell_on HB1.out c2
  clear c0 c2 hmm
  go_wp2_with (first
    | (at_range; refine wpList_range_own _ rfl _ 64 rfl 9 70 keyed9 Tryd.underlying64 heldR V.b nn (mapD V.F) rfl HOWN.out ?_; intro w0 hrg0 hg0 hs0)
    | go_in)
  go_frame
  rw [hz1] at hrg0 hs0 ⊢
  have HRG0 := Lib.hid hrg0
  have HG0 := Lib.hid hg0
  have HS0 := Lib.hid hs0
  clear hrg0 hg0 hs0 hz1 d2
  go_loopw [6] (fun v6 wr => ∃ (left : Lit → Bool) (cnt : Nat) (V' : VZ) (x : Value), v6 = x ∧ Hid (wr.ranges Tryd.prog 9 heldR V.b (w.heap.size + 2) nn (mapD V.F) left cnt) ∧ Hid (Made k V.F left V'.F) ∧ Hid (VRep wr w.heap.size (w.heap.size + 1) V') ∧ Hid (V'.b = w.heap.size ∧ V'.room = V.room ∧ V'.armed = false ∧ V'.fuse = 0) ∧ Hid (∀ f ∈ V'.F, ∀ b, blkF f = some b → w.heap.size + 3 ≤ b) ∧ Hid (Below w.heap.size w wr) ∧ Hid (w.heap.size + 3 ≤ wr.heap.size)) (fun _ wr => wr.rangeLeft V.b (w.heap.size + 2))
  case atStart => exact ⟨_, _, ⟨V.room, false, 0, w.heap.size, []⟩, _, rfl, HRG0, Lib.hid (Made.start k V.F), Lib.hid (HV1.out.fr (Fr.of_grown HG0.out) (fun i _ e => by cases e)), Lib.hid ⟨rfl, rfl, rfl, rfl⟩, Lib.hid (fun f hf => by cases hf), Lib.hid (HB1.out.grown HG0.out HB1.out.size (fun j hj => by cases hj)), Lib.hid (by have := HS0.out; omega)⟩
  case round =>
    clear HRG0 HG0 HS0 HV1 HB1 HOWN
    obtain ⟨left, cnt, V', x0, rfl, HRG, HMD, HV, HVF, HR3, HB, HSZ⟩ := hrel
    go_wp2_with (first
      | (at_next; refine wpList_next_ranges _ rfl _ rfl 9 keyed9 heldR Value.string (id : Value → Value) (fun key kl hk => Maps.keyOf_string_inv Tryd.underlying9 hk) (fun v y hv => ⟨v, rfl⟩) V.b (w.heap.size + 2) nn (mapD V.F) left cnt rfl HRG.out ?_ ?_)
      | go_in)
    · intro hc0 hl0
      have HFIN := Lib.hid (HMD.out.fin HH.out.core.one HV.out.core.one hl0)
      clear hc0 hl0
      go_wp2_with fail
      go_ret
      refine ⟨V', rfl, ?_, HV.out, HB.out⟩
      obtain ⟨e1, e2, e3, e4⟩ := HVF.out
      unfold normZ likeS
      simp only
      rw [e2, e3, e4, HFIN.out, List.map_map]
      rfl
    · intro x cv kl y ps w1 cnt1 hkey hlk hv hat hrg1 hlt hg1 hs1 hen
      obtain rfl := key_lit hkey
      have hy : y = .held cv := by unfold heldR at hv; injection hv with hv; injection hv with hv _; exact hv.symm
      subst hy
      obtain ⟨f, hf1, rfl⟩ := look_held hat
      have HXS := Lib.hid (show x.size ≤ 12 by have := look_name hf1; rw [← this.1]; exact HH.out.name f this.2)
      have HF1 := Lib.hid hf1
      have HLK := Lib.hid hlk
      have HFM := Lib.hid (look_name hf1).2
      have HRG1 := Lib.hid hrg1
      have HLT := Lib.hid hlt
      have HB1 := Lib.hid (show Below w.heap.size w w1 from HB.out.grown hg1 HB.out.size (fun j hj => by cases hj; exact Nat.le_add_right _ _))
      have HV1 := Lib.hid (show VRep w1 w.heap.size (w.heap.size + 1) V' from HV.out.fr (Fr.of_grown hg1) (fun i hi e => by
        injection e with e
        rcases hi with hi | hi | ⟨f, hf, hb⟩
        · omega
        · have := HVF.out.1; omega
        · have := HR3.out f hf i hb; omega))
      have HSZ1 := Lib.hid (show w.heap.size + 3 ≤ w1.heap.size by have := HSZ.out; omega)
      have hown := (HH.out.own f (look_name hf1).2)
      have hsafe := (HH.out.safe f (look_name hf1).2)
      have hfn := lk_le x HH.out.core.one
      rw [show lkF V.F x = f by unfold lkF; rw [hf1]; rfl] at hfn
      have hbn := hown.n
      obtain ⟨nm, fA, fn, fc, fs, fb⟩ := f
      simp only at hfn hsafe hbn
      obtain ⟨A', c', e, hrow, hcc, haa⟩ := own_slice hown
      cases e
      have HFR := Lib.hid (And.intro hrow (And.intro hcc (And.intro haa hsafe)))
      have hfn2 : fn ≤ 16777216 := by have := HH.out.core.used; omega
      have HFN := Lib.hid hfn2
      have HBN := Lib.hid hbn
      obtain ⟨⟨kk, ss⟩, hks⟩ : ∃ q, q = k fn fs := ⟨_, rfl⟩
      have hkk := HK.out fn fs hsafe
      rw [← hks] at hkk
      have HKS := Lib.hid hks
      have HKK := Lib.hid (show kk ≤ fn ∧ ss ≤ kk from hkk)
      have hen2 : (Instr.entry (.pointer (some ⟨w.heap.size + 2, 0, none⟩))).run Tryd.prog w1 = .ok (.tuple #[.string x, .agg #[.slice fA fn fc, .int .i64 fs]]) w1 := hen
      clear hkey hlk hv hat hrg1 hlt hg1 hs1 hen hf1 hown hsafe hfn hrow hcc haa hks hkk hfn2 hbn
      go_upto_region 5 with fail
      obtain ⟨w2, hw2⟩ : ∃ w2, w2 = w1.alloc (.cells #[.slice fA fn fc, .int .i64 fs] 70) := ⟨_, rfl⟩
      have hb2 : Below w1.heap.size w1 w2 := by rw [hw2]; exact bpush (Below.refl _ _) _
      have HB2 := Lib.hid hb2
      have HK2 := Lib.hid (show Blk w2 w1.heap.size 70 #[.slice fA fn fc, .int .i64 fs] by rw [hw2]; exact Blk.new _ _ _)
      rw [← hw2]
      obtain ⟨gb, hgb⟩ : ∃ gb, gb = w1.heap.size := ⟨_, rfl⟩
      have HGB := Lib.hid hgb
      rw [← hgb] at HK2 ⊢
      clear hw2 hb2 hgb hen2
      have HCL := Lib.hid (show Calls Tryd.prog g (#[.agg #[.slice fA fn fc, .int .i64 fs]] ++ lb) w2 fun e W' => e = .returned (.agg #[.slice fA kk fc, .int .i64 (ss : Int)]) ∧ Below w2.heap.size w2 W' from by
        have h := HG.out w2 fA fn fc fs (bthen HB1.out HB2.out) HFR.out.2.2.2 HFR.out.2.1 HFR.out.2.2.1 HFN.out
        rw [← HKS.out] at h
        exact h)
      have HKG := Lib.hid (show ∀ w3, Below w2.heap.size w2 w3 → w3.cell? ⟨gb, 0, none⟩ = some (.slice fA fn fc) ∧ w3.cell? ⟨gb, 1, none⟩ = some (.int .i64 fs) ∧ w3.frozen? ⟨gb, 0, none⟩ = false ∧ w3.frozen? ⟨gb, 1, none⟩ = false ∧ Blk w3 gb 70 #[.slice fA fn fc, .int .i64 fs] from fun w3 hb => by
        have h1 := HK2.out.below hb HK2.out.lt
        have h2 := h1.cell 0
        have h3 := h1.cell 1
        simp at h2 h3
        exact ⟨h2, h3, h1.frozen 0, h1.frozen 1, h1⟩)
      have b0 := HK2.out.cell 0
      have b1 := HK2.out.cell 1
      simp at b0 b1
      go_upto_region 6 with (go_at_fn g; refine HCL.out.mono ?_; rintro e w3 ⟨rfl, hb⟩; obtain ⟨k0, k1, kf0, kf1, kb⟩ := HKG.out _ hb; have HB3 := Lib.hid hb; have HK3 := Lib.hid kb; clear hb kb)
      obtain ⟨w4, hw4⟩ : ∃ w4, w4 = (w3.setCell ⟨gb, 0, none⟩ (.slice fA kk fc)).setCell ⟨gb, 1, none⟩ (.int .i64 ss) := ⟨_, rfl⟩
      have HK4 := Lib.hid (show Blk w4 gb 70 #[.slice fA kk fc, .int .i64 ss] by rw [hw4]; exact (HK3.out.set_ 0 _).set_ 1 _)
      have HB4 := Lib.hid (show Below w1.heap.size w1 w4 by
        rw [hw4]
        have h := bthen HB2.out HB3.out
        exact bset (bset h (by have := HGB.out; omega) _) (by have := HGB.out; omega) _)
      rw [← hw4]
      clear hw4 k0 k1 kf0 kf1 b0 b1 HKG HCL
      obtain ⟨wd, hwd⟩ : ∃ wd, wd = w4.drew := ⟨_, rfl⟩
      have hbd : Below w4.heap.size w4 wd := by rw [hwd]; exact below_drewN (Below.refl _ _) 1
      have hs0 : (fun w' => Blk w' gb 70 #[.slice fA kk fc, .int .i64 ss]) wd := HK4.out.below hbd HK4.out.lt
      have HBd := Lib.hid (bthen HB4.out hbd)
      rw [hwd] at hs0
      refine wp_region_held_drew (S := fun w' => Blk w' gb 70 #[.slice fA kk fc, .int .i64 ss]) (by kernel_rfl) hs0 ?_
      intro hHeld
      rw [← hwd] at hHeld ⊢
      clear hwd hbd hs0 HK4 HK3 HK2
      refine take_want (i := 0) (v := ?v0z) rfl (by kernel_rfl) (by kernel_rfl) (by kernel_rfl) (fun _ _ _ h => h) (by rfl) ?y0z (by assumption) ?r0z
      case y0z => (intro w hSw; go_simp; all_goals with_reducible rfl)
      (try simp only [Act.put, List.setIfInBounds_toArray, List.set_cons_zero, List.set_cons_succ])
      refine take_want (i := 1) (v := ?v1z) rfl (by kernel_rfl) (by kernel_rfl) (by kernel_rfl) (fun _ _ _ h => h) (by rfl) ?y1z (by assumption) ?r1z
      case y1z => (intro w hSw; go_simp; all_goals with_reducible rfl)
      (try simp only [Act.put, List.setIfInBounds_toArray, List.set_cons_zero, List.set_cons_succ])
      refine take_want (i := 2) (v := ?v2z) rfl (by kernel_rfl) (by kernel_rfl) (by kernel_rfl) (fun _ _ _ h => h) (by rfl) ?y2z (by assumption) ?r2z
      case y2z => (intro w hSw; go_simp; all_goals with_reducible rfl)
      (try simp only [Act.put, List.setIfInBounds_toArray, List.set_cons_zero, List.set_cons_succ])
      refine take_want (i := 3) (v := ?v3z) rfl (by kernel_rfl) (by kernel_rfl) (by kernel_rfl) (fun _ _ _ h => h) (by rfl) ?y3z (by assumption) ?r3z
      case y3z => (intro w hSw; have r0 := hSw.cell 0; have r1 := hSw.cell 1; simp at r0 r1; go_simp; all_goals with_reducible rfl)
      (try simp only [Act.put, List.setIfInBounds_toArray, List.set_cons_zero, List.set_cons_succ])
      refine take_want (i := 5) (v := ?v5z) rfl (by kernel_rfl) (by kernel_rfl) (by kernel_rfl) (fun _ _ _ h => h) (by rfl) ?y5z (by assumption) ?r5z
      case y5z => (intro w hSw; go_simp; all_goals with_reducible rfl)
      (try simp only [Act.put, List.setIfInBounds_toArray, List.set_cons_zero, List.set_cons_succ])
      refine take_want (i := 6) (v := ?v6z) rfl (by kernel_rfl) (by kernel_rfl) (by kernel_rfl) (fun _ _ _ h => h) (by rfl) ?y6z (by assumption) ?r6z
      case y6z => (intro w hSw; have r0 := hSw.cell 0; have r1 := hSw.cell 1; simp at r0 r1; go_simp; all_goals with_reducible rfl)
      (try simp only [Act.put, List.setIfInBounds_toArray, List.set_cons_zero, List.set_cons_succ])
      refine wpAnyH_ready (rs := [4]) (by kernel_rfl) (by simp) ?_
      refine AllReadyH.cons rfl (fun K hK => ?_) AllReadyH.nil
      go_simp
      (go_at_call 53; refine (cloneB_any fA kk fc (u8s (fb.take kk)) _ ((show Row w fA (u8s (fb.take kk)) from (by have h := HFR.out.1.takeV kk; rw [show (u8s fb).take kk = u8s (fb.take kk) from (by unfold u8s; rw [List.map_take])] at h; exact h)).keep (Nat.le_refl _) (bthen HB1.out HBd.out)) (by rw [u8s_len, List.length_take]; have := HKK.out.1; have := HBN.out; omega) (one_u8s _) (Nat.le_trans HKK.out.1 HFR.out.2.1) HFR.out.2.2.1 (by have := HKK.out.1; have := HFN.out; omega)).mono ?_; rintro e V2 ⟨D, kc, rfl, ho, hb⟩)
      have hs2 : Blk V2 gb 70 #[.slice fA kk fc, .int .i64 ss] := hHeld.below hb hHeld.lt
      have HO2 := Lib.hid ho
      have HBV := Lib.hid (bthen HBd.out hb)
      have HSD := Lib.hid (show w1.heap.size ≤ wd.heap.size from HBd.out.size)
      refine hK.out _ _ hs2 (fun hHeld => ?_)
      clear hK K
      (try simp only [Act.put, List.setIfInBounds_toArray, List.set_cons_zero, List.set_cons_succ])
      clear ho hb hs2
      refine take_want (i := 7) (v := ?v7z) rfl (by kernel_rfl) (by kernel_rfl) (by kernel_rfl) (fun _ _ _ h => h) (by rfl) ?y7z (by assumption) ?r7z
      case y7z => (intro w hSw; go_simp; all_goals with_reducible rfl)
      (try simp only [Act.put, List.setIfInBounds_toArray, List.set_cons_zero, List.set_cons_succ])
      have HMD2 := Lib.hid (HMD.out.step HKN.out HH.out.core.one (f2 := ⟨x, D, kk, kc, ss, fb.take kk⟩) HV.out.core.one HF1.out HLK.out rfl (by
        have hnm := (look_name HF1.out).1
        simp only at hnm
        subst hnm
        unfold normF chF
        simp only [← HKS.out]))
      have HRV := Lib.hid (HV1.out.below HBV.out)
      have hus := HMD2.out.used
      have hln := HMD2.out.len
      have hup := used_put HV.out.core.one ⟨x, D, kk, kc, ss, fb.take kk⟩
      have hlkn : (lkF V'.F x).n = ((lookF V'.F x).map FZ.n).getD 0 := by unfold lkF; cases lookF V'.F x <;> rfl
      have hvu := HH.out.core.used
      have HP := Lib.hid (put_any (w.heap.size + 1) V' x D kk kc ss (fb.take kk) V2 HRV.out.core (by have := HXS.out; omega) (by simp only at hup; omega) (by have := HRV.out.len; omega))
      clear hus hln hup hlkn hvu
      refine wpAnyH_ready (rs := [8]) (by kernel_rfl) (by simp) ?_
      refine AllReadyH.cons rfl (fun K hK => ?_) AllReadyH.nil
      go_simp
      (go_at_call 29; refine HP.out.mono ?_; rintro e w6 ⟨rfl, hv6, hf6⟩)
      have HV6 := Lib.hid hv6
      have HF6 := Lib.hid hf6
      refine hK.out _ _ ((hf6.block gb hHeld.lt (by have := HGB.out; have := HVF.out.1; have := HSZ1.out; omega)).trans hHeld) (fun hHeld => ?_)
      clear hK K
      (try simp only [Act.put, List.setIfInBounds_toArray, List.set_cons_zero, List.set_cons_succ])
      clear hv6 hf6
      refine wpAnyH_done (by kernel_rfl) ?_ _
      have h16 : Fr (fun i => i = w.heap.size + 1 ∨ i = V'.b) w1 w6 := (Fr.of_below HBV.out).trans HF6.out
      have hown2 : OwnF V2 w.heap.size ⟨x, D, kk, kc, ss, fb.take kk⟩ := own_less HO2.out (by have := HSD.out; have := HSZ1.out; omega)
      have hown6 : OwnF w6 w.heap.size ⟨x, D, kk, kc, ss, fb.take kk⟩ := hown2.fr HF6.out fun b e k => by
        have hn := own_not_core HRV.out.core hown2
        rcases k with k | k
        · exact hn.1 (by rw [e, k])
        · exact hn.2 (by rw [e, k])
      have hnew : ∀ b, blkF ⟨x, D, kk, kc, ss, fb.take kk⟩ = some b → wd.heap.size ≤ b := fun b e => by
        have h2 : OwnF V2 wd.heap.size ⟨x, D, kk, kc, ss, fb.take kk⟩ := HO2.out
        exact (h2.lt e).2.1
      have hrow6 : ∀ y ∈ V'.F, OwnF w6 w.heap.size y := fun y hy => (HRV.out.own y hy).fr HF6.out fun b e k => by
        have hn := own_not_core HRV.out.core (HRV.out.own y hy)
        rcases k with k | k
        · exact hn.1 (by rw [e, k])
        · exact hn.2 (by rw [e, k])
      have hrep : VRep w6 w.heap.size (w.heap.size + 1) (putZ V' ⟨x, D, kk, kc, ss, fb.take kk⟩) := by
        refine put_rep HV1.out rfl rfl rfl HV6.out (fun y hy _ => hrow6 y hy) hown6 (fun z hz => ?_) HKK.out.2 HXS.out (fun y hy _ b e k => ?_) ?_ ?_
        · exact HH.out.byt _ HFM.out z (List.mem_of_mem_take hz)
        · have h1 := hnew b e
          have h2 := ((HV1.out.own y hy).lt k).1
          have := HSD.out
          omega
        · have h1 := HMD2.out.used
          have := HH.out.used
          rw [HVF.out.2.1]
          omega
        · have h1 := HMD2.out.len
          have := HH.out.len
          omega
      have HREP := Lib.hid hrep
      have HR6 := Lib.hid (show ∀ y ∈ (putZ V' ⟨x, D, kk, kc, ss, fb.take kk⟩).F, ∀ b, blkF y = some b → w.heap.size + 3 ≤ b from fun y hy b e => by
        rcases (mem_putZ (V := V') rfl).1 hy with rfl | ⟨h1, _⟩
        · have := hnew b e; have := HSD.out; have := HSZ1.out; omega
        · exact HR3.out y h1 b e)
      have HRG6 := Lib.hid (HRG1.out.fr h16 (fun e => by
        have h1 := HH.out.core.lb
        rcases e with e | e
        · omega
        · have := HVF.out.1; omega) (fun e => by
        rcases e with e | e
        · omega
        · have := HVF.out.1; omega))
      have HB6 := Lib.hid (show Below w.heap.size w w6 from ((Fr.of_below (S := fun i => i = w.heap.size + 1 ∨ i = V'.b) HB1.out).trans h16).below (Nat.le_refl _) (fun i hi => by
        rcases hi with hi | hi
        · omega
        · have := HVF.out.1; omega))
      have HSZ6 := Lib.hid (show w.heap.size + 3 ≤ w6.heap.size by have := HSZ1.out; have := h16.size; omega)
      have HVF6 := Lib.hid (show (putZ V' ⟨x, D, kk, kc, ss, fb.take kk⟩).b = w.heap.size ∧ (putZ V' ⟨x, D, kk, kc, ss, fb.take kk⟩).room = V.room ∧ (putZ V' ⟨x, D, kk, kc, ss, fb.take kk⟩).armed = false ∧ (putZ V' ⟨x, D, kk, kc, ss, fb.take kk⟩).fuse = 0 from HVF.out)
      clear h16 hown2 hown6 hnew hrow6 hrep hHeld
      go_wp2_with fail
      go_roundw
      case rel => exact ⟨_, cnt1, putZ V' ⟨x, D, kk, kc, ss, fb.take kk⟩, _, rfl, HRG6, HMD2, HREP, HVF6, HR6, HB6, HSZ6⟩
      case measure => rw [HRG6.out.left_eq, HRG.out.left_eq]; exact HLT.out
end Go.Proofs.YthogafecplhckaaDoor
namespace Go.Proofs.YthogafecplhckaaDoor
open Go.RowKit Go.Maps Go.Shelf Go.Lib
set_option linter.unusedSimpArgs false
set_option linter.unusedVariables false
def kC (t : Int) (n s : Nat) : Nat × Nat := if s ≤ n then (kOf t n s, kOf t n s) else (n, n)
def kI (n s : Nat) : Nat × Nat := (n, s)
theorem kOf_le {t : Int} {n s : Nat} (h : s ≤ n) : kOf t n s ≤ n := by unfold kOf; omega
theorem kC_le (t : Int) (n s : Nat) : (kC t n s).1 ≤ n := by
  unfold kC; split
  · exact kOf_le (by assumption)
  · exact Nat.le_refl _
theorem kC_2 (t : Int) (n s : Nat) : (kC t n s).2 ≤ (kC t n s).1 := by unfold kC; split <;> exact Nat.le_refl _
def crashS (t : Int) (P : VZ) : VZ := likeS (kC t) P
def copyS (P : VZ) : VZ := { likeS kI P with armed := P.armed, fuse := P.fuse }
/-- A vault of its own, told up to where it lies. -/
def OwnPost (w : World) (P : VZ) (e : Ending) (w' : World) : Prop :=
  ∃ a V, e = .returned (.pointer (some ⟨a, 0, none⟩)) ∧ normZ V = P ∧ VRep w' w.heap.size a V ∧ Below w.heap.size w w'
theorem VRep.lower {w : World} {B B' a : Nat} {V : VZ} (h : VRep w B a V) (hB : B' ≤ B) : VRep w B' a V :=
  { h with own := fun f hf => by have := h.own f hf; exact own_less this hB, ba := Nat.le_trans hB h.ba, bb := Nat.le_trans hB h.bb }
set_option maxRecDepth 100000 in
set_option maxHeartbeats 4000000 in
theorem crash_any (B a : Nat) (V : VZ) (t : Int) (w : World) (h : VRep w B a V) (h1 : -9223372036854775808 ≤ t) (h2 : t ≤ 9223372036854775807) :
    Calls Tryd.prog 18 #[.pointer (some ⟨a, 0, none⟩), .int .i64 t] w (OwnPost w (crashS t (normZ V))) := by
  obtain ⟨w1, hw1⟩ : ∃ w1, w1 = w.alloc (.cells #[.int .i64 t] 3) := ⟨_, rfl⟩
  have hb1 : Below w.heap.size w w1 := by rw [hw1]; exact bpush (Below.refl _ _) _
  have hk : w1.cell? ⟨w.heap.size, 0, none⟩ = some (.int .i64 t) := by rw [hw1]; exact cell_made rfl rfl
  have HL := Lib.hid (like_any (kC t) 38 #[.pointer (some ⟨w.heap.size, 0, none⟩)] B a V w1 (h.below hb1) (fun n s _ => ⟨kC_le t n s, kC_2 t n s⟩) (kC_le t) enter36 (fun W A n c safe hb hs hc ha hn => by
    have := crash1_any w.heap.size t A n c safe W (cell_on hb hk) hs hc ha hn h1 h2
    unfold kC
    rw [if_pos hs]
    exact this))
  have HB1 := Lib.hid hb1
  have HW1 := Lib.hid hw1
  clear hb1 hk h hw1
  go_enter Tryd.func18, Tryd.ntmps18
  go_upto_region 1 with fail
  rw [← HW1.out]
  go_wp2_with (go_at_call 37; refine HL.out.mono ?_; rintro e w2 ⟨V2, rfl, hn2, hv2, hb2⟩; have HN2 := Lib.hid hn2; have HV2 := Lib.hid hv2; have HB2 := Lib.hid hb2; clear hn2 hv2 hb2)
  go_ret
  exact ⟨_, V2, rfl, HN2.out, HV2.out.lower HB1.out.size, bthen HB1.out HB2.out⟩
theorem copyS_norm (V : VZ) : True := trivial
end Go.Proofs.YthogafecplhckaaDoor
