/- bucket.Cut. -/
import Derived.Test.YtmjjlolbdjjepaaR
import Derived.Maps.AppendAt
import Derived.RangeFuncBox
namespace Go.Proofs.Ytmjjlolbdjjepaa
open Go.RowKit Go.Shelf
set_option linter.unusedSimpArgs false
set_option linter.unusedVariables false
attribute [local go_sem] Oper.semAt_some
theorem Try.info34 : (Try.prog.info? 34).map (fun i => (i.zero, i.size, i.bytes)) = some (some (.agg #[.int .i64 0, .int .i64 0]), 2, 16) := by kernel_rfl
theorem str_maker (f t g : Int) (w : World) : Calls Try.prog 25 #[.int .i64 f, .int .i64 t, .int .i64 g] w fun e w' =>
    e = .returned (.func (.func 26) #[] #[.pointer (some ⟨w.heap.size, 0, none⟩), .pointer (some ⟨w.heap.size + 1, 0, none⟩), .pointer (some ⟨w.heap.size + 1 + 1, 0, none⟩)]) ∧ w' = ((w.alloc (.cells #[.int .i64 f] 3)).alloc (.cells #[.int .i64 t] 3)).alloc (.cells #[.int .i64 g] 3) := by
  go_enter Try.func25, Try.ntmps25
  go_wp2
  go_ret
  exact ⟨rfl, rfl⟩
theorem owns_lower {w : World} {base base' : Nat} {e : TypeId} {size : Nat} {v : Value} {n : Nat} {xs : List Value} (h : w.ownsRow base e size v n xs) (hb : base' ≤ base) : w.ownsRow base' e size v n xs := by
  rcases h.2 with h0 | ⟨g, cap, cur, h1, h2, h3⟩
  · exact ⟨h.1, .inl h0⟩
  · exact ⟨h.1, .inr ⟨g, cap, cur, h1, by omega, h3⟩⟩
/-- The cells of stretches. -/
def runC (g t f : Int) (k : Nat) : List Value := (List.range k).flatMap (fun i => [.int .i64 (pos g t f i), .int .i64 (pos g t f (i + 1))])
theorem runC_succ (g t f : Int) (k : Nat) : runC g t f (k + 1) = runC g t f k ++ [.int .i64 (pos g t f k), .int .i64 (pos g t f (k + 1))] := by simp [runC, List.range_succ]
theorem runC_length (g t f : Int) (k : Nat) : (runC g t f k).length = k * 2 := by
  induction k with
  | zero => rfl
  | succ k ih => rw [runC_succ, List.length_append, ih]; simp; omega
/-- What Cut answers: so many stretches. -/
def Cuts (w : World) (g t f : Int) (k : Nat) (e : Ending) (w' : World) : Prop :=
  ∃ v, e = .returned (.tuple #[v, .int .i64 0]) ∧ w'.ownsRow w.heap.size 34 2 v k (runC g t f k) ∧ (k = 0 → v = .slice none 0 0) ∧ Below w.heap.size w w'
def EndsAt (g t f : Int) (k : Nat) : Prop := k ≤ 1000 ∧ (k = 1000 ∨ t ≤ pos g t f k) ∧ ∀ i, i < k → pos g t f i < t
/-- Between two rounds: the loop's record, the block for deferred calls, the collected stretches. -/
def Jn (w : World) (b0 : Nat) (rec : LoopState → Option Code → Loop) (g t f : Int) (s : LoopState) (p : Option Code) (k : Nat) (W : World) : Prop :=
  W.heap[b0 + 4 + 1]? = some (.loop (rec s p)) ∧ W.heap[b0 + 4]? = some (.deferred (some [])) ∧ b0 + 6 ≤ W.heap.size ∧ Below b0 w W ∧
    ∃ v, Blk W b0 29 #[v] ∧ W.ownsRow (b0 + 6) 34 2 v k (runC g t f k) ∧ (k = 0 → v = .slice none 0 0)
theorem own_set {W : World} {base : Nat} {e : TypeId} {size : Nat} {v : Value} {k : Nat} {xs : List Value} (h : W.ownsRow base e size v k xs) {p : Addr} (hp : p.block < base) (u : Value) : (W.setCell p u).ownsRow base e size v k xs := by
  refine h.kept (row := some p.block) ⟨rfl, rfl, rfl, by simp [World.setCell], fun i _ hi => Below.heap_setCell W p u i (fun e => hi (by rw [e]))⟩ ?_
  cases ho : v.ownBlock with
  | none => exact .inl rfl
  | some q => exact .inr (fun e => by have := h.lt q ho; injection e; omega)
theorem Jn.setCell {w : World} {b0 : Nat} {rec : LoopState → Option Code → Loop} {g t f : Int} {s : LoopState} {p : Option Code} {k : Nat} {W : World} (h : Jn w b0 rec g t f s p k W) (u : Value) :
    Jn w b0 rec g t f s p k (W.setCell ⟨b0 + 1, 0, none⟩ u) := by
  obtain ⟨h1, h2, h3, h4, v, h5, h6, h7⟩ := h
  exact ⟨(Below.heap_setCell W ⟨b0 + 1, 0, none⟩ u _ (by simp)).trans h1, (Below.heap_setCell W ⟨b0 + 1, 0, none⟩ u _ (by simp)).trans h2, by simpa [World.setCell] using h3,
    h4.setCell (p := ⟨b0 + 1, 0, none⟩) (by simp) u, v, h5.far (p := ⟨b0 + 1, 0, none⟩) (by simp) u, own_set h6 (p := ⟨b0 + 1, 0, none⟩) (by simp) u, h7⟩
theorem Jn.drewN {w : World} {b0 : Nat} {rec : LoopState → Option Code → Loop} {g t f : Int} {s : LoopState} {p : Option Code} {k : Nat} {W : World} (h : Jn w b0 rec g t f s p k W) (m : Nat) :
    Jn w b0 rec g t f s p k (W.drewN m) := by
  obtain ⟨h1, h2, h3, h4, v, h5, h6, h7⟩ := h
  exact ⟨h1, h2, h3, below_drewN h4 m, v, h5, h6, h7⟩
set_option maxRecDepth 100000 in
set_option maxHeartbeats 4000000 in
theorem cut_good (f t g : Int) (w : World) (hg : okGran g) (hf : okTime f) (ht : okTime t) :
    Calls Try.prog 19 #[.int .i64 f, .int .i64 t, .int .i64 g] w fun e w' => ∃ k, EndsAt g t f k ∧ Cuts w g t f k e w' := by
  refine (callsIn_wide (n := 9)).1 ?_
  have HG := Lib.hid hg
  have HF := Lib.hid hf
  have HT := Lib.hid ht
  obtain ⟨i0, hi0, hz0, hz1, hz2⟩ := info_parts Try.info34
  clear hg hf ht
  refine callsIn_of_wp_marks Try.func19 rfl trivial ?_ rfl
  simp only [Try.ntmps19, List.size_toArray, List.length_cons, List.length_nil, Nat.reduceAdd, Nat.reduceSub, Array.replicate_succ, Array.replicate_zero, List.push_toArray, List.append_toArray, List.nil_append, List.cons_append]
  gi_wp2
  refine ⟨trivial, (callsIn_wide.2 (right_yes _ _ HG.out)).mono ?_⟩
  rintro e w' ⟨rfl, rfl⟩
  gi_wp2
  refine ⟨trivial, (callsIn_wide.2 (time_yes _ _ HF.out)).mono ?_⟩
  rintro e w' ⟨rfl, rfl⟩
  gi_wp2
  refine ⟨trivial, (callsIn_wide.2 (time_yes _ _ HT.out)).mono ?_⟩
  rintro e w' ⟨rfl, rfl⟩
  gi_wp2
  refine ⟨trivial, (callsIn_wide.2 (str_maker _ _ _ _)).mono ?_⟩
  rintro e w' ⟨rfl, rfl⟩
  gi_wp2
  obtain ⟨b0, hb0⟩ : ∃ b0, b0 = w.heap.size := ⟨_, rfl⟩
  have hk0 : Blk ((((w.alloc (.cells #[.slice none 0 0] 29)).alloc (.cells #[.int .i64 f] 3)).alloc (.cells #[.int .i64 t] 3)).alloc (.cells #[.int .i64 g] 3)) w.heap.size 29 #[.slice none 0 0] := (((Blk.new w 29 _).alloc _).alloc _).alloc _
  have hbx : Box3 ((((w.alloc (.cells #[.slice none 0 0] 29)).alloc (.cells #[.int .i64 f] 3)).alloc (.cells #[.int .i64 t] 3)).alloc (.cells #[.int .i64 g] 3)) (w.heap.size + 1) (w.heap.size + 1 + 1) (w.heap.size + 1 + 1 + 1) f t g := by
    refine ⟨?_, ?_, ?_⟩
    · have := ((Blk.new (w.alloc (.cells #[.slice none 0 0] 29)) 3 #[.int .i64 f]).alloc (.cells #[.int .i64 t] 3)).alloc (.cells #[.int .i64 g] 3)
      simpa using this
    · have := (Blk.new ((w.alloc (.cells #[.slice none 0 0] 29)).alloc (.cells #[.int .i64 f] 3)) 3 #[.int .i64 t]).alloc (.cells #[.int .i64 g] 3)
      simpa using this
    · have := Blk.new (((w.alloc (.cells #[.slice none 0 0] 29)).alloc (.cells #[.int .i64 f] 3)).alloc (.cells #[.int .i64 t] 3)) 3 #[.int .i64 g]
      simpa using this
  have hb4 : Below w.heap.size w ((((w.alloc (.cells #[.slice none 0 0] 29)).alloc (.cells #[.int .i64 f] 3)).alloc (.cells #[.int .i64 t] 3)).alloc (.cells #[.int .i64 g] 3)) := bpush (bpush (bpush (bpush (Below.refl _ _) _) _) _) _
  have hsz : ((((w.alloc (.cells #[.slice none 0 0] 29)).alloc (.cells #[.int .i64 f] 3)).alloc (.cells #[.int .i64 t] 3)).alloc (.cells #[.int .i64 g] 3)).heap.size = w.heap.size + 4 := by simp
  have HK0 := Lib.hid hk0
  have HBX := Lib.hid hbx
  have HB4 := Lib.hid hb4
  have HSZ := Lib.hid hsz
  have HB0 := Lib.hid hb0
  clear hk0 hbx hb4 hsz
  rw [← hb0] at HK0 HBX HB4 HSZ ⊢
  generalize (((w.alloc (.cells #[.slice none 0 0] 29)).alloc (.cells #[.int .i64 f] 3)).alloc (.cells #[.int .i64 t] 3)).alloc (.cells #[.int .i64 g] 3) = w4 at HK0 HBX HB4 HSZ ⊢
  clear hb0
  refine range_rec (by omega) (gf := 26) (lb := #[.pointer (some ⟨b0 + 1, 0, none⟩), .pointer (some ⟨b0 + 1 + 1, 0, none⟩), .pointer (some ⟨b0 + 1 + 1 + 1, 0, none⟩)]) rfl (enters_of Try.func26 (by kernel_rfl) rfl) ?_
  intro fn rec hrec
  rw [HSZ.out] at hrec ⊢
  refine CallsIn.mono (str_any 8 (b0 + 4 + 1) (b0 + 1) (b0 + 1 + 1) (b0 + 1 + 1 + 1) f t g HG.out HF.out HT.out (by omega) (by omega)
    (fun k W => k ≤ 999 ∧ Jn w b0 rec g t f .ready none k W) (fun k W => k = 1000 ∧ Jn w b0 rec g t f .done (some (.exit 0)) k W)
    (fun k W m h => ⟨h.1, h.2.drewN m⟩) (fun k W v h => ⟨h.1, h.2.setCell v⟩) ?round _ ?start ?box) ?post
  case start =>
    have hs : w4.heap.size = b0 + 4 := HSZ.out
    refine ⟨by omega, ?_, ?_, by simp; omega, ?_, .slice none 0 0, (HK0.out.alloc _).alloc _, World.ownsRow_nil _ _ _ _, fun _ => rfl⟩
    · have := World.alloc_heap_new (w4.alloc (.deferred (some []))) (.loop (rec .ready none))
      rw [World.size_alloc, hs] at this
      exact this
    · have := World.alloc_heap_new w4 (.deferred (some []))
      rw [hs] at this
      exact (Below.heap_alloc _ _ _ (by simp; omega)).trans this
    · have h1 := (HB4.out.alloc (by omega) (.deferred (some []))).alloc (by simp; omega) (.loop (rec .ready none))
      exact h1
  case box => exact ⟨(HBX.out.1.alloc _).alloc _, (HBX.out.2.1.alloc _).alloc _, (HBX.out.2.2.alloc _).alloc _⟩
  case round =>
    rintro k W ⟨hk9, hJ⟩ hbx hlt
    obtain ⟨hL, hD, hsz, hBw, v, hk, hown, hnil⟩ := hJ
    obtain ⟨A, hA⟩ : ∃ A, A = pos g t f k := ⟨_, rfl⟩
    obtain ⟨E, hE⟩ : ∃ E, E = pos g t f (k + 1) := ⟨_, rfl⟩
    have HRC := Lib.hid (show runC g t f (k + 1) = runC g t f k ++ [.int .i64 A, .int .i64 E] by rw [runC_succ, hA, hE])
    rw [← hA] at hbx ⊢
    rw [← hE]
    clear hA hE hlt
    obtain ⟨V, hV⟩ : ∃ V, (W.alloc (.cells #[.int .i64 A, .int .i64 E] 34)).putObj (b0 + 4 + 1) (.loop (rec .busy none)) = V := ⟨_, rfl⟩
    have hlW : (W.alloc (.cells #[.int .i64 A, .int .i64 E] 34)).heap[b0 + 4 + 1]? = some (.loop (rec .ready none)) := (Below.heap_alloc _ _ _ (by omega)).trans hL
    have hVb : Blk V b0 29 #[v] := by rw [← hV]; exact (World.putObj_heap_other (by omega)).trans (hk.alloc _)
    have hVr : Blk V W.heap.size 34 #[.int .i64 A, .int .i64 E] := by rw [← hV]; exact (World.putObj_heap_other (by omega)).trans (Blk.new W 34 _)
    have hVL : V.heap[b0 + 4 + 1]? = some (.loop (rec .busy none)) := by rw [← hV]; exact World.putObj_heap_same (by simp; omega)
    have hVD : V.heap[b0 + 4]? = some (.deferred (some [])) := by rw [← hV]; exact (World.putObj_heap_other (by omega)).trans ((Below.heap_alloc _ _ _ (by omega)).trans hD)
    have hVo : V.ownsRow (b0 + 6) 34 2 v k (runC g t f k) := by rw [← hV]; exact ownsRow_putObj (hown.alloc _) _ hlW rfl
    have hVB : Below b0 w V := by
      rw [← hV]
      exact (hBw.alloc (by omega) _).grown (grownBy_putObj' _ _ _) (by simp; omega) (fun j e => by cases e; omega)
    have hVs : V.heap.size = W.heap.size + 1 := by rw [← hV]; simp
    have hVx : Box3 V (b0 + 1) (b0 + 1 + 1) (b0 + 1 + 1 + 1) A t g := by
      rw [← hV]
      exact ⟨(World.putObj_heap_other (by omega)).trans (hbx.1.alloc _), (World.putObj_heap_other (by omega)).trans (hbx.2.1.alloc _), (World.putObj_heap_other (by omega)).trans (hbx.2.2.alloc _)⟩
    have HV := Lib.hid hV
    have HLW := Lib.hid hlW
    refine round_rec hrec hL rfl ?_
    have HX := Lib.hid (And.intro hVL (And.intro hVD hVx))
    have HVB := Lib.hid hVB
    have HVS := Lib.hid hVs
    have HVO := Lib.hid hVo
    have HVBK := Lib.hid hVb
    have hc0 : V.cell? ⟨b0, 0, none⟩ = some v := hVb.cell 0
    have hc1 : V.cell? ⟨W.heap.size, 0, none⟩ = some (.int .i64 A) := hVr.cell 0
    have hc2 : V.cell? ⟨W.heap.size, 1, none⟩ = some (.int .i64 E) := hVr.cell 1
    clear hV hlW hVb hVr hVL hVD hVo hVB hVs hVx hL hD hBw hk hown hnil hbx hrec
    gi_wp2
    refine ⟨HLW.out, ?_⟩
    rw [HV.out]
    have hown := HVO.out
    gi_wp2_with (gi_at_builtin; refine wpListIn_append_own _ rfl _ _ 29 rfl (b0 + 6) 34 i0 (.agg #[.int .i64 0, .int .i64 0]) 2 16 Try.underlying29 hi0 hz0 hz1 hz2 rfl (by decide) _ _ _ rfl (hown.alloc _) ⟨V.heap.size, 0, none⟩ 1 1 [.int .i64 A, .int .i64 E] rfl rfl ?c1 ?c2 ?c3 ?c4 ?c5 ?_)
    case c1 =>
      intro j u hj
      match j, hj with
      | 0, hj => simp at hj; subst hj; simp [Addr.add]
      | 1, hj => simp at hj; subst hj; simp [Addr.add]
    case c2 => intro u hu; simp at hu; rcases hu with rfl | rfl <;> rfl
    case c3 => unfold maxLen; omega
    case c4 => omega
    case c5 => have := HVS.out; simp; omega
    intro v' w1 hown' hgrow _
    obtain ⟨g', cap', rfl⟩ := ownsRow_succ hown'
    rw [← HRC.out] at hown'
    have hne : ∀ i, i < b0 + 6 → some i ≠ v.ownBlock := fun i hi he => by have := HVO.out.lt i he.symm; omega
    have hkB : ∀ i, i < b0 + 6 → w1.heap[i]? = V.heap[i]? := fun i hi => (hgrow.block i (by have := HVS.out; simp; omega) (hne i hi)).trans (Below.heap_alloc _ _ _ (by have := HVS.out; omega))
    have hb1 : Blk w1 b0 29 #[v] := (hkB b0 (by omega)).trans HVBK.out
    have hs1 : b0 + 6 ≤ w1.heap.size := by have h1 := hgrow.size; have h2 := HVS.out; simp at h1; omega
    have hB1 : Below b0 w w1 := (HVB.out.alloc (by have := HVS.out; omega) _).grown hgrow (by have := HVS.out; simp; omega) (fun j e => by have := HVO.out.lt j e; omega)
    have HJ : Hid (∀ s p, Jn w b0 rec g t f s p (k + 1) ((w1.setCell ⟨b0, 0, none⟩ (.slice (some ⟨g', 0, none⟩) (k + 1) cap')).putObj (b0 + 4 + 1) (.loop (rec s p)))) := Lib.hid (fun s p => by
      have hsl : (w1.setCell ⟨b0, 0, none⟩ (.slice (some ⟨g', 0, none⟩) (k + 1) cap')).heap[b0 + 4 + 1]? = some (.loop (rec .busy none)) := (Below.heap_setCell w1 ⟨b0, 0, none⟩ _ _ (by simp; omega)).trans ((hkB _ (by omega)).trans HX.out.1)
      refine ⟨World.putObj_heap_same (by simp [World.setCell]; omega), (World.putObj_heap_other (by omega)).trans ((Below.heap_setCell w1 ⟨b0, 0, none⟩ _ _ (by simp)).trans ((hkB _ (by omega)).trans HX.out.2.1)), by simp [World.setCell]; omega, ?_, .slice (some ⟨g', 0, none⟩) (k + 1) cap', ?_, ?_, fun h => by omega⟩
      · exact (hB1.setCell (p := ⟨b0, 0, none⟩) (Nat.le_refl _) _).grown (grownBy_putObj' _ _ _) (by simp [World.setCell]; omega) (fun j e => by cases e; omega)
      · exact (World.putObj_heap_other (by omega)).trans (hb1.set_ 0 _)
      · exact ownsRow_putObj (own_set hown' (p := ⟨b0, 0, none⟩) (by first | (simp; done) | (simp; omega)) _) _ hsl rfl)
    have HBX2 : Hid (∀ o, Box3 ((w1.setCell ⟨b0, 0, none⟩ (.slice (some ⟨g', 0, none⟩) (k + 1) cap')).putObj (b0 + 4 + 1) o) (b0 + 1) (b0 + 1 + 1) (b0 + 1 + 1 + 1) A t g) := Lib.hid (fun o =>
      ⟨(World.putObj_heap_other (by omega)).trans ((Below.heap_setCell w1 ⟨b0, 0, none⟩ _ _ (by simp)).trans ((hkB _ (by omega)).trans HX.out.2.2.1)),
       (World.putObj_heap_other (by omega)).trans ((Below.heap_setCell w1 ⟨b0, 0, none⟩ _ _ (by simp; omega)).trans ((hkB _ (by omega)).trans HX.out.2.2.2.1)),
       (World.putObj_heap_other (by omega)).trans ((Below.heap_setCell w1 ⟨b0, 0, none⟩ _ _ (by simp; omega)).trans ((hkB _ (by omega)).trans HX.out.2.2.2.2))⟩)
    have HSL := Lib.hid (show (w1.setCell ⟨b0, 0, none⟩ (.slice (some ⟨g', 0, none⟩) (k + 1) cap')).heap[b0 + 4 + 1]? = some (.loop (rec .busy none)) from (Below.heap_setCell w1 ⟨b0, 0, none⟩ _ _ (by simp; omega)).trans ((hkB _ (by omega)).trans HX.out.1))
    have hcb := hb1.cell 0
    replace hcb : w1.cell? ⟨b0, 0, none⟩ = some v := hcb
    have hfb := hb1.frozen 0
    clear hown' hgrow hne hkB hb1 hB1 hc0 hc1 hc2 HX HVB HVBK hown HV HLW
    by_cases hlast : k + 1 = 1000
    · obtain rfl : k = 999 := by omega
      gi_wp2
      exact ⟨HSL.out, rfl, HJ.out .done (some (.exit 0))⟩
    · have hnl : ((k : Int) + 1 == 1000) = false := by simp; omega
      gi_wp2
      exact ⟨HSL.out, .inl ⟨rfl, ⟨by omega, HJ.out .ready none⟩, HBX2.out _⟩⟩
  case post =>
    rintro e W' ⟨⟨v0, rfl⟩, h⟩
    refine ⟨⟨_, rfl⟩, ?_⟩
    rcases h with ⟨k, h1, h2, h3, hJ⟩ | ⟨k, h2, hk, hJ⟩
    · obtain ⟨hL, hD, hsz, hBw, v, hk, hown, hnil⟩ := hJ
      refine .inl ⟨hL, ?_⟩
      obtain ⟨V, hV⟩ : ∃ V, W'.putObj (b0 + 4 + 1) (.loop (rec .exhausted none)) = V := ⟨_, rfl⟩
      rw [hV]
      have hc0 : V.cell? ⟨b0, 0, none⟩ = some v := by
        have : Blk V b0 29 #[v] := by rw [← hV]; exact (World.putObj_heap_other (by omega)).trans hk
        exact this.cell 0
      have HD := Lib.hid (show V.heap[b0 + 4]? = some (.deferred (some [])) by rw [← hV]; exact (World.putObj_heap_other (by omega)).trans hD)
      have HO := Lib.hid (show V.ownsRow (b0 + 6) 34 2 v k (runC g t f k) by rw [← hV]; exact ownsRow_putObj hown _ hL rfl)
      have HBV := Lib.hid (show Below b0 w V by rw [← hV]; exact hBw.grown (grownBy_putObj' _ _ _) (by omega) (fun j e => by cases e; omega))
      have HN := Lib.hid hnil
      have HE := Lib.hid (show EndsAt g t f k from ⟨by omega, .inr h1, h2⟩)
      have HVZ := Lib.hid (show b0 + 6 ≤ V.heap.size by rw [← hV]; simpa using hsz)
      clear hL hD hsz hBw hk hown hnil h1 h2 h3 hV hrec
      gi_wp2
      refine ⟨by simp, .inl ⟨_, _, rfl, run_takeDeferred HD.out, ?_⟩⟩
      refine ⟨_, results_tmp2 rfl _ _ _, k, HE.out, v, rfl, ?_, HN.out, ?_⟩
      · have h := ownsRow_putObj HO.out (.deferred none) HD.out rfl
        exact owns_lower h (by rw [← HB0.out]; omega)
      · rw [← HB0.out]
        exact HBV.out.grown (grownBy_putObj' _ _ _) (by have := HVZ.out; omega) (fun j e => by cases e; omega)
    · obtain ⟨hL, hD, hsz, hBw, v, hkk, hown, hnil⟩ := hJ
      refine .inr ⟨.exit 0, hL, ?_⟩
      obtain ⟨V, hV⟩ : ∃ V, W'.putObj (b0 + 4 + 1) (.loop (rec .exhausted (some (.exit 0)))) = V := ⟨_, rfl⟩
      rw [hV]
      have hc0 : V.cell? ⟨b0, 0, none⟩ = some v := by
        have : Blk V b0 29 #[v] := by rw [← hV]; exact (World.putObj_heap_other (by omega)).trans hkk
        exact this.cell 0
      have HD := Lib.hid (show V.heap[b0 + 4]? = some (.deferred (some [])) by rw [← hV]; exact (World.putObj_heap_other (by omega)).trans hD)
      have HO := Lib.hid (show V.ownsRow (b0 + 6) 34 2 v k (runC g t f k) by rw [← hV]; exact ownsRow_putObj hown _ hL rfl)
      have HBV := Lib.hid (show Below b0 w V by rw [← hV]; exact hBw.grown (grownBy_putObj' _ _ _) (by omega) (fun j e => by cases e; omega))
      have HN := Lib.hid hnil
      have HE := Lib.hid (show EndsAt g t f k from ⟨by omega, .inl hk, h2⟩)
      have HVZ := Lib.hid (show b0 + 6 ≤ V.heap.size by rw [← hV]; simpa using hsz)
      clear hL hD hsz hBw hkk hown hnil h2 hk hV hrec
      gi_wp2
      refine ⟨by simp, .inl ⟨_, _, rfl, run_takeDeferred HD.out, ?_⟩⟩
      refine ⟨_, results_tmp2 rfl _ _ _, k, HE.out, v, rfl, ?_, HN.out, ?_⟩
      · have h := ownsRow_putObj HO.out (.deferred none) HD.out rfl
        exact owns_lower h (by rw [← HB0.out]; omega)
      · rw [← HB0.out]
        exact HBV.out.grown (grownBy_putObj' _ _ _) (by have := HVZ.out; omega) (fun j e => by cases e; omega)
theorem cut_bad (f t g : Int) (w : World) (h : ¬ (okGran g ∧ okTime f ∧ okTime t)) :
    Calls Try.prog 19 #[.int .i64 f, .int .i64 t, .int .i64 g] w fun e w' => e = .returned (.tuple #[.slice none 0 0, .int .i64 111]) ∧ Below w.heap.size w w' := by
  by_cases hg : okGran g
  · have HG := Lib.hid hg
    by_cases hf : okTime f
    · have HF := Lib.hid hf
      have HT := Lib.hid (fun ht => h ⟨hg, hf, ht⟩ : ¬ okTime t)
      clear h hg hf
      go_enter Try.func19, Try.ntmps19
      go_wp2_with fail
      refine (right_yes _ _ HG.out).mono ?_
      rintro e w1 ⟨rfl, rfl⟩
      go_wp2_with fail
      refine (time_yes _ _ HF.out).mono ?_
      rintro e w1 ⟨rfl, rfl⟩
      go_wp2_with fail
      refine (time_no _ _ HT.out).mono ?_
      rintro e w1 ⟨rfl, rfl⟩
      go_wp2
      go_ret2
      exact ⟨rfl, Below.refl _ _⟩
    · have HF := Lib.hid hf
      clear h hg hf
      go_enter Try.func19, Try.ntmps19
      go_wp2_with fail
      refine (right_yes _ _ HG.out).mono ?_
      rintro e w1 ⟨rfl, rfl⟩
      go_wp2_with fail
      refine (time_no _ _ HF.out).mono ?_
      rintro e w1 ⟨rfl, rfl⟩
      go_wp2
      go_ret2
      exact ⟨rfl, Below.refl _ _⟩
  · have HG := Lib.hid hg
    clear h hg
    go_enter Try.func19, Try.ntmps19
    go_wp2_with fail
    refine (right_no _ _ HG.out).mono ?_
    rintro e w1 ⟨rfl, rfl⟩
    go_wp2
    go_ret2
    exact ⟨rfl, Below.refl _ _⟩
end Go.Proofs.Ytmjjlolbdjjepaa
