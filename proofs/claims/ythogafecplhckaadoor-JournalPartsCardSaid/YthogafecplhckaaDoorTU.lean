/- A reader whose bytes lie ahead of it. Parse of a dictionary's own bytes. The reader ahead of its bytes: a text that fails; opened on whatever bytes; what Parse reads, as a function. -/
import Derived.Test.YthogafecplhckaaDoorGZ
import Derived.Test.YthogafecplhckaaDoorGY
namespace Go.Proofs.YthogafecplhckaaDoor
open Go.RowKit
set_option linter.unusedSimpArgs false
set_option linter.unusedVariables false
/-- A reader whose bytes are left. -/
def Rq (w : World) (rb : Nat) (bs : List Int) : Prop :=
  ∃ A n c, w.cell? ⟨rb, 0, none⟩ = some (.slice A n c) ∧ n = bs.length ∧ n ≤ c ∧ n ≤ 1000000 ∧ (∀ o, w.frozen? ⟨rb, o, none⟩ = false) ∧
    (bs = [] ∨ ∃ b off, A = some ⟨b, off, none⟩ ∧ b < rb ∧ ∀ j u, (bs.map (Value.int .u8))[j]? = some u → w.cell? ⟨b, off + j, none⟩ = some u)
theorem Rq.keep {w w' : World} {rb : Nat} {bs : List Int} (h : Rq w rb bs) (hb : Below w.heap.size w w') : Rq w' rb bs := by
  obtain ⟨A, n, c, h1, h2, h3, h4, h5, h6⟩ := h
  obtain ⟨hc, hf⟩ := bcell hb
  have hl := lt_of_cell h1
  refine ⟨A, n, c, (hc _ _ hl).trans h1, h2, h3, h4, fun o => (hf _ _ hl).trans (h5 o), ?_⟩
  rcases h6 with h6 | ⟨b, off, h7, h8, h9⟩
  · exact .inl h6
  · exact .inr ⟨b, off, h7, h8, fun j u hu => (hc _ _ (lt_of_cell (h9 j u hu))).trans (h9 j u hu)⟩
theorem Rq.lt {w : World} {rb : Nat} {bs : List Int} (h : Rq w rb bs) : rb < w.heap.size := by
  obtain ⟨A, n, c, h1, _⟩ := h; exact lt_of_cell h1
def OpenPq (w : World) (bs : List Int) (e : Ending) (w' : World) : Prop :=
  ∃ rb, e = .returned (.pointer (some ⟨rb, 0, none⟩)) ∧ w.heap.size ≤ rb ∧ Rq w' rb bs ∧ Below w.heap.size w w'
set_option maxRecDepth 100000 in
set_option maxHeartbeats 1000000 in
theorem openq_some (b off n c : Nat) (bs : List Int) (w : World) (hA : Row w (some ⟨b, off, none⟩) (bs.map (Value.int .u8))) (hn : n ≤ 1000000) (hz : n = bs.length) (hpos : 0 < n) :
    Calls Tryd.prog 42 #[.slice (some ⟨b, off, none⟩) n c] w (OpenPq w bs) := by
  have HZ := Lib.hid hz
  clear hz
  obtain ⟨i0, hi0, hz0, hz1, hz2⟩ := info_parts Tryd.info5
  go_enter Tryd.func42, Tryd.ntmps42
  go_wp2_with (at_builtin; refine wpList_append_own _ rfl _ _ 25 rfl w.heap.size 5 i0 (.int .u8 0) 1 1 Tryd.underlying25 hi0 hz0 hz1 hz2 rfl (by decide) (.slice none 0 0) 0 [] rfl (World.ownsRow_nil _ _ _ _) ⟨b, off, none⟩ n c (bs.map (Value.int .u8)) rfl ?h1 ?h2 ?h3 ?h4 ?h5 ?h6 ?_)
  case h1 => have := HZ.out; simp; omega
  case h2 => exact hA.adds _ rfl
  case h3 => intro u hu; simp at hu; obtain ⟨x, _, rfl⟩ := hu; rfl
  case h4 => unfold maxLen; omega
  case h5 => omega
  case h6 => exact Nat.le_refl _
  intro v' w1 hown hgrow _
  have hB : Below w.heap.size w w1 := (Below.refl _ _).grown hgrow (Nat.le_refl _) (by simp [Value.ownBlock])
  obtain ⟨g, cap, rfl, hcap, hrow⟩ := Row.of_own hown hpos
  have hg : g < w1.heap.size := by
    rcases hrow with h | ⟨b', off', he, hc⟩
    · have := HZ.out; simp at h; subst h; simp at this; omega
    · cases he; exact (hown.lt g rfl).2
  have hrow' := hrow.keep (Nat.le_refl _) (bpush (Below.refl _ _) (.cells #[.slice (some ⟨g, 0, none⟩) n cap] 116))
  have HP : Hid (OpenPq w bs (.returned (.pointer (some ⟨w1.heap.size, 0, none⟩))) (w1.alloc (.cells #[.slice (some ⟨g, 0, none⟩) n cap] 116))) := by
    refine ⟨_, rfl, hB.size, ⟨some ⟨g, 0, none⟩, n, cap, by simp, HZ.out, hcap, hn, fun o => by simp, ?_⟩, bpush hB _⟩
    rcases hrow' with h | ⟨b', off', he, hc⟩
    · exact .inl (by simpa using h)
    · cases he; exact .inr ⟨g, 0, rfl, by omega, hc⟩
  clear hown hgrow hB hrow hrow'
  go_wp2
  go_ret
  exact HP.out
set_option maxRecDepth 100000 in
set_option maxHeartbeats 1000000 in
theorem openq_none (w : World) :
    Calls Tryd.prog 42 #[.slice none 0 0] w (OpenPq w []) := by
  obtain ⟨i0, hi0, hz0, hz1, hz2⟩ := info_parts Tryd.info5
  have HP : Hid (OpenPq w [] (.returned (.pointer (some ⟨w.heap.size, 0, none⟩))) (w.alloc (.cells #[.slice none 0 0] 116))) :=
    ⟨_, rfl, Nat.le_refl _, ⟨none, 0, 0, by simp, rfl, Nat.le_refl _, by omega, fun o => by simp, .inl rfl⟩, bpush (Below.refl _ _) _⟩
  go_enter Tryd.func42, Tryd.ntmps42
  go_wp2_with (at_builtin; refine wpList_append_own_none rfl _ _ 25 rfl w.heap.size 5 i0 1 Tryd.underlying25 hi0 (.slice none 0 0) 0 [] rfl (World.ownsRow_nil _ _ _ _) rfl ?_)
  go_ret
  exact HP.out
theorem openq_any (A : Option Addr) (n c : Nat) (bs : List Int) (w : World) (hA : Row w A (bs.map (Value.int .u8))) (hn : n ≤ 1000000) (hz : n = bs.length) (hpos : 0 < n) :
    Calls Tryd.prog 42 #[.slice A n c] w (OpenPq w bs) := by
  obtain ⟨b, off, rfl⟩ := hA.head (by omega)
  exact openq_some b off n c bs w hA hn hz hpos
/-- What a reading call leaves of a reader. -/
def ReadPq (w : World) (rb : Nat) (v : Value) (err : Int) (bs : List Int) (e : Ending) (w' : World) : Prop :=
  e = .returned (.tuple #[v, .int .i64 err]) ∧ Rq w' rb bs ∧ w.grownBy w' (some rb)
theorem Rq.put {w : World} {rb : Nat} {bs cs : List Int} {A : Option Addr} {n c : Nat} (h : Rq w rb bs) (hn : n = cs.length) (hnc : n ≤ c) (hn2 : n ≤ 1000000)
    (hA : cs = [] ∨ ∃ b off, A = some ⟨b, off, none⟩ ∧ b < rb ∧ ∀ j u, (cs.map (Value.int .u8))[j]? = some u → w.cell? ⟨b, off + j, none⟩ = some u) :
    Rq (w.setCell ⟨rb, 0, none⟩ (.slice A n c)) rb cs ∧ w.grownBy (w.setCell ⟨rb, 0, none⟩ (.slice A n c)) (some rb) := by
  obtain ⟨A0, n0, c0, h1, _, _, _, h5, _⟩ := h
  refine ⟨⟨A, n, c, World.cell?_setCell_same' w _ _ (by rw [h1]; rfl), hn, hnc, hn2, fun o => by rw [World.frozen?_setCell]; exact h5 o, ?_⟩, ?_⟩
  · rcases hA with hA | ⟨b, off, h7, h8, h9⟩
    · exact .inl hA
    · exact .inr ⟨b, off, h7, h8, fun j u hu => (World.cell?_setCell_other w _ _ _ (fun e => (Nat.ne_of_lt h8) (by have := congrArg Addr.block e; simpa using this.symm))).trans (h9 j u hu)⟩
  · exact ⟨rfl, rfl, rfl, by simp [World.setCell], fun i hi hne => Below.heap_setCell w _ _ i (fun e => hne (by rw [e]))⟩
set_option maxRecDepth 100000 in
set_option maxHeartbeats 1000000 in
theorem rintq_bad (rb : Nat) (bs : List Int) (lo hi : Int) (w : World) (hR : Rq w rb bs) (hb : bytes bs) (v : Int) (l : Nat) (hp : numP bs = (v, l)) (hbad : l = 0 ∨ v < lo ∨ hi < v) :
    Calls Tryd.prog 45 #[.pointer (some ⟨rb, 0, none⟩), .int .i64 lo, .int .i64 hi] w (ReadPq w rb (.int .i64 0) 11 bs) := by
  have hR' := Lib.hid hR
  obtain ⟨A, n, c, h1, h2, h3, h4, h5, h6⟩ := hR
  have H2 := Lib.hid h2
  have HP := Lib.hid hp
  have HB := Lib.hid hb
  have hrow : Row w A (bs.map (Value.int .u8)) := by
    rcases h6 with rfl | ⟨b, off, h7, h8, h9⟩
    · exact .inl rfl
    · exact .inr ⟨b, off, h7, h9⟩
  clear h2 hp hb h6
  go_enter Tryd.func45, Tryd.ntmps45
  go_wp2_with fail
  refine (number_any A n c bs w hrow (by omega) H2.out HB.out v l HP.out).mono ?_
  rintro e w1 ⟨rfl, rfl⟩
  by_cases hl : l = 0
  · subst hl
    go_wp2
    go_ret2
    exact ⟨rfl, hR'.out, grown_refl _ _⟩
  · have hl' : (1 : Int) ≤ (l : Int) := by omega
    have hl2 : ((l : Int) == 0) = false := by simp; omega
    by_cases h7 : v < lo
    · go_wp2
      go_ret2
      exact ⟨rfl, hR'.out, grown_refl _ _⟩
    · have h8 : hi < v := by omega
      go_wp2
      go_ret2
      exact ⟨rfl, hR'.out, grown_refl _ _⟩
set_option maxRecDepth 100000 in
set_option maxHeartbeats 1000000 in
theorem rintq_good (rb : Nat) (bs : List Int) (lo hi : Int) (w : World) (hR : Rq w rb bs) (hb : bytes bs) (v : Int) (l : Nat) (hp : numP bs = (v, l)) (hl : 0 < l) (hv1 : lo ≤ v) (hv2 : v ≤ hi) :
    Calls Tryd.prog 45 #[.pointer (some ⟨rb, 0, none⟩), .int .i64 lo, .int .i64 hi] w (ReadPq w rb (.int .i64 v) 0 (bs.drop l)) := by
  have hR' := Lib.hid hR
  obtain ⟨A, n, c, h1, h2, h3, h4, h5, h6⟩ := hR
  have H2 := Lib.hid h2
  have HP := Lib.hid hp
  have HB := Lib.hid hb
  obtain ⟨hln, hl0, -, -⟩ := numP_len hp
  have hfz := h5 0
  rcases h6 with rfl | ⟨b, off, rfl, h8, h9⟩
  · simp at hl0; omega
  have hrow : Row w (some ⟨b, off, none⟩) (bs.map (Value.int .u8)) := .inr ⟨b, off, rfl, h9⟩
  have hln' : l ≤ n := by omega
  have hl2 : ((l : Int) == 0) = false := by simp; omega
  have h9' := Lib.hid h9
  clear h2 hp hb h5 h9 hl0 hln
  by_cases hcl : c = l
  · have hQ := hR'.out.put (cs := bs.drop l) (A := some ⟨b, off, none⟩) (n := 0) (c := 0) (by rw [List.length_drop, ← H2.out]; omega) (by omega) (by omega) (.inl (List.drop_of_length_le (by have := H2.out; omega)))
    have HQ := Lib.hid hQ
    subst hcl
    clear hQ
    go_enter Tryd.func45, Tryd.ntmps45
    go_wp2_with fail
    refine (number_any _ n c bs w hrow (by omega) H2.out HB.out v c HP.out).mono ?_
    rintro e w1 ⟨rfl, rfl⟩
    go_wp2
    go_ret2
    exact ⟨rfl, HQ.out.1, HQ.out.2⟩
  · have hQ := hR'.out.put (cs := bs.drop l) (A := some ⟨b, off + l, none⟩) (n := n - l) (c := c - l) (by rw [List.length_drop, ← H2.out]) (by omega) (by omega)
      (.inr ⟨b, off + l, rfl, h8, fun j u hu => by
        have := h9'.out (l + j) u (by rw [List.getElem?_map, List.getElem?_drop] at hu; rw [List.getElem?_map]; exact hu)
        rwa [← Nat.add_assoc] at this⟩)
    have HQ := Lib.hid hQ
    clear hQ
    go_enter Tryd.func45, Tryd.ntmps45
    go_wp2_with fail
    refine (number_any _ n c bs w hrow (by omega) H2.out HB.out v l HP.out).mono ?_
    rintro e w1 ⟨rfl, rfl⟩
    go_wp2
    go_ret2
    exact ⟨rfl, HQ.out.1, HQ.out.2⟩
set_option maxRecDepth 100000 in
set_option maxHeartbeats 1000000 in
theorem rtextq_good (rb : Nat) (bs : List Int) (hi : Int) (w : World) (hR : Rq w rb bs) (hb : bytes bs) (t l : Nat) (hp : numP bs = ((t : Int), l)) (hl : 0 < l) (hv2 : (t : Int) ≤ hi) (hlen : l + t ≤ bs.length) :
    Calls Tryd.prog 75 #[.pointer (some ⟨rb, 0, none⟩), .int .i64 hi] w (ReadPq w rb (.string (strOfNums ((bs.drop l).take t))) 0 (bs.drop (l + t))) := by
  have hR' := Lib.hid hR
  obtain ⟨A, n, c, h1, h2, h3, h4, h5, h6⟩ := hR
  have H2 := Lib.hid h2
  have HP := Lib.hid hp
  have HB := Lib.hid hb
  have hfz := h5 0
  rcases h6 with rfl | ⟨b, off, rfl, h8, h9⟩
  · simp at hlen; omega
  have hrow : Row w (some ⟨b, off, none⟩) (bs.map (Value.int .u8)) := .inr ⟨b, off, rfl, h9⟩
  have hln' : l + t ≤ n := by omega
  have hl2 : ((l : Int) == 0) = false := by simp; omega
  have h9' := Lib.hid h9
  have hxl : ((bs.drop l).take t).length = t := by rw [List.length_take, List.length_drop]; omega
  have hxc : ∀ i, i < t → w.cell? ⟨b, off + l + i, none⟩ = some (.int .u8 (((bs.drop l).take t).getD i 0)) := by
    intro i hi
    have e : ((bs.drop l).take t).getD i 0 = bs[l + i] := by
      rw [List.getD_eq_getElem?_getD, List.getElem?_take_of_lt hi, List.getElem?_drop, List.getElem?_eq_getElem (by omega)]; rfl
    rw [e, Nat.add_assoc]
    exact h9 (l + i) _ (by rw [List.getElem?_map, List.getElem?_eq_getElem (by omega)]; rfl)
  clear h2 hp hb h5 h9 hlen
  by_cases hcl : c = l
  · have ht0 : t = 0 := by omega
    subst ht0 hcl
    have hxc' : ∀ i, i < 0 → w.cell? ⟨b, off + i, none⟩ = some (.int .u8 (((bs.drop c).take 0).getD i 0)) := fun i hi => absurd hi (by omega)
    have hnc : n = c := by omega
    have HQ := Lib.hid (hR'.out.put (cs := bs.drop (c + 0)) (A := some ⟨b, off, none⟩) (n := 0) (c := 0) (by rw [List.length_drop, ← H2.out]; omega) (by omega) (by omega) (.inl (List.drop_of_length_le (by have := H2.out; omega))))
    have hcv := run_convert_bytes_arg (P := Tryd.prog) w 25 5 Tryd.underlying25 Tryd.underlying5 b off 0 0 _ hxl hxc' 9 Tryd.underlying9
    obtain ⟨s, hs⟩ : ∃ s, s = strOfNums ((bs.drop c).take 0) := ⟨_, rfl⟩
    rw [← hs] at hcv ⊢
    clear hs hxl hxc hxc' hnc
    go_enter Tryd.func75, Tryd.ntmps75
    go_wp2_with fail
    refine (number_any _ n c bs w hrow (by omega) H2.out HB.out _ c HP.out).mono ?_
    rintro e w1 ⟨rfl, rfl⟩
    go_wp2
    go_ret2
    exact ⟨rfl, HQ.out.1, HQ.out.2⟩
  · by_cases hct : c = l + t
    · have HQ := Lib.hid (hR'.out.put (cs := bs.drop (l + t)) (A := some ⟨b, off, none⟩) (n := 0) (c := 0) (by rw [List.length_drop, ← H2.out]; omega) (by omega) (by omega) (.inl (List.drop_of_length_le (by have := H2.out; omega))))
      have hcv := run_convert_bytes_arg (P := Tryd.prog) w 25 5 Tryd.underlying25 Tryd.underlying5 b (off + l) t t _ hxl hxc 9 Tryd.underlying9
      obtain ⟨s, hs⟩ : ∃ s, s = strOfNums ((bs.drop l).take t) := ⟨_, rfl⟩
      rw [← hs] at hcv ⊢
      subst hct
      clear hs hxl hxc
      go_enter Tryd.func75, Tryd.ntmps75
      go_wp2_with fail
      refine (number_any _ n _ bs w hrow (by omega) H2.out HB.out _ l HP.out).mono ?_
      rintro e w1 ⟨rfl, rfl⟩
      go_wp2
      go_ret2
      exact ⟨rfl, HQ.out.1, HQ.out.2⟩
    · have HQ := Lib.hid (hR'.out.put (cs := bs.drop (l + t)) (A := some ⟨b, off + (l + t), none⟩) (n := n - (l + t)) (c := c - (l + t)) (by rw [List.length_drop, ← H2.out]) (by omega) (by omega)
      (.inr ⟨b, off + (l + t), rfl, h8, fun j u hu => by
        have := h9'.out (l + t + j) u (by rw [List.getElem?_map, List.getElem?_drop] at hu; rw [List.getElem?_map]; exact hu)
        rwa [← Nat.add_assoc] at this⟩))
      have hcv := run_convert_bytes_arg (P := Tryd.prog) w 25 5 Tryd.underlying25 Tryd.underlying5 b (off + l) t (c - l) _ hxl hxc 9 Tryd.underlying9
      obtain ⟨s, hs⟩ : ∃ s, s = strOfNums ((bs.drop l).take t) := ⟨_, rfl⟩
      rw [← hs] at hcv ⊢
      clear hs hxl hxc
      go_enter Tryd.func75, Tryd.ntmps75
      go_wp2_with fail
      refine (number_any _ n c bs w hrow (by omega) H2.out HB.out _ l HP.out).mono ?_
      rintro e w1 ⟨rfl, rfl⟩
      go_wp2
      go_ret2
      exact ⟨rfl, HQ.out.1, HQ.out.2⟩
end Go.Proofs.YthogafecplhckaaDoor
namespace Go.Proofs.YthogafecplhckaaDoor
open Go.RowKit Go.Lib
set_option linter.unusedSimpArgs false
set_option linter.unusedVariables false
theorem Rq.under {w w' : World} {rb H : Nat} {bs : List Int} (h : Rq w rb bs) (hb : Below H w w') (hH : rb < H) : Rq w' rb bs := by
  obtain ⟨A, n, c, h1, h2, h3, h4, h5, h6⟩ := h
  obtain ⟨hc, hf⟩ := bcell hb
  refine ⟨A, n, c, (hc _ _ hH).trans h1, h2, h3, h4, fun o => (hf _ _ hH).trans (h5 o), ?_⟩
  rcases h6 with h6 | ⟨b, off, h7, h8, h9⟩
  · exact .inl h6
  · exact .inr ⟨b, off, h7, h8, fun j u hu => (hc _ _ (by omega)).trans (h9 j u hu)⟩
theorem encV_bytes' (v : Int) : bytes (encV v) := encI_bytes _
theorem bytes_app' {xs ys : List Int} (h1 : bytes xs) (h2 : bytes ys) : bytes (xs ++ ys) := fun x hx => (List.mem_append.1 hx).elim (h1 x) (h2 x)
def encG (v : Int) : Nat := groupsZ (foldZ v).toNat
theorem encG_len (v : Int) : (encV v).length = encG v := encI_length _
theorem encG_pos (v : Int) : 0 < encG v := (groups_bd _).1
theorem drop_enc (v : Int) (rest : List Int) : (encV v ++ rest).drop (encG v) = rest := by
  rw [← encG_len, List.drop_left]
theorem own_other {w w' : World} {rb H n : Nat} {v : Value} {xs : List Value} (h : w.ownsRow H 9 1 v n xs) (hg : w.grownBy w' (some rb)) (hH : rb < H) : w'.ownsRow H 9 1 v n xs :=
  h.kept hg (by
    rcases h.2 with ⟨rfl, _⟩ | ⟨g, cap, cur, rfl, hb, _⟩
    · exact .inl rfl
    · exact .inr (fun e => by have h1 : g = rb := (by simpa [Value.ownBlock] using e); omega))
end Go.Proofs.YthogafecplhckaaDoor
namespace Go.Proofs.YthogafecplhckaaDoor
open Go.RowKit Go.Lib
set_option linter.unusedSimpArgs false
set_option linter.unusedVariables false
set_option maxRecDepth 100000 in
set_option maxHeartbeats 1000000 in
theorem rtextq_bad (rb : Nat) (bs : List Int) (hi : Int) (w : World) (hR : Rq w rb bs) (hb : bytes bs) (v : Int) (l : Nat) (hp : numP bs = (v, l)) (hbad : l = 0 ∨ v < 0 ∨ hi < v ∨ (bs.length : Int) - l < v) :
    Calls Tryd.prog 75 #[.pointer (some ⟨rb, 0, none⟩), .int .i64 hi] w (ReadPq w rb (.string ByteArray.empty) 11 bs) := by
  have hR' := Lib.hid hR
  obtain ⟨A, n, c, h1, h2, h3, h4, h5, h6⟩ := hR
  have H2 := Lib.hid h2
  have HP := Lib.hid hp
  have HB := Lib.hid hb
  have hrow : Row w A (bs.map (Value.int .u8)) := by
    rcases h6 with rfl | ⟨b, off, h7, h8, h9⟩
    · exact .inl rfl
    · exact .inr ⟨b, off, h7, h9⟩
  rw [← h2] at hbad
  have hll : l ≤ n := by rw [h2]; exact (numP_len hp).1
  have hvb := (numP_len hp).2.2
  have hsub : IntKind.i64.wrap ((n : Int) - (l : Int)) = ((n - l : Nat) : Int) := by rw [IntWalk.i64_in _ (by omega)]; omega
  obtain ⟨D, hD⟩ : ∃ D, D = n - l := ⟨_, rfl⟩
  rw [← hD] at hsub
  clear h2 hp hb h6
  go_enter Tryd.func75, Tryd.ntmps75
  go_wp2_with fail
  refine (number_any A n c bs w hrow (by omega) H2.out HB.out v l HP.out).mono ?_
  rintro e w1 ⟨rfl, rfl⟩
  by_cases hl : l = 0
  · subst hl
    go_wp2
    go_ret2
    exact ⟨rfl, hR'.out, grown_refl _ _⟩
  · have hl' : (1 : Int) ≤ (l : Int) := by omega
    have hl2 : ((l : Int) == 0) = false := by simp; omega
    by_cases h7 : v < 0
    · go_wp2
      go_ret2
      exact ⟨rfl, hR'.out, grown_refl _ _⟩
    · by_cases h8 : hi < v
      · go_wp2
        go_ret2
        exact ⟨rfl, hR'.out, grown_refl _ _⟩
      · have h9 : (D : Int) < v := by omega
        go_wp2
        go_ret2
        exact ⟨rfl, hR'.out, grown_refl _ _⟩
set_option maxRecDepth 100000 in
set_option maxHeartbeats 1000000 in
theorem openq_zero (ad : Addr) (c : Nat) (w : World) : Calls Tryd.prog 42 #[.slice (some ad) 0 c] w (OpenPq w []) := by
  obtain ⟨i0, hi0, hz0, hz1, hz2⟩ := info_parts Tryd.info5
  go_enter Tryd.func42, Tryd.ntmps42
  go_wp2_with (at_builtin; refine wpList_append_own _ rfl _ _ 25 rfl w.heap.size 5 i0 (.int .u8 0) 1 1 Tryd.underlying25 hi0 hz0 hz1 hz2 rfl (by decide) (.slice none 0 0) 0 [] rfl (World.ownsRow_nil _ _ _ _) ad 0 c [] rfl rfl (by simp) (by simp) (by simp [maxLen]) (by omega) (Nat.le_refl _) ?_)
  intro v' w1 hown hgrow hiff
  have hv : v' = .slice none 0 0 := hiff
  have hB : Below w.heap.size w w1 := (Below.refl _ _).grown hgrow (Nat.le_refl _) (by simp [Value.ownBlock])
  subst hv
  have HP : Hid (OpenPq w [] (.returned (.pointer (some ⟨w1.heap.size, 0, none⟩))) (w1.alloc (.cells #[.slice none 0 0] 116))) :=
    ⟨_, rfl, hB.size, ⟨none, 0, 0, by simp, rfl, Nat.le_refl _, by omega, fun o => by simp, .inl rfl⟩, bpush hB _⟩
  clear hown hgrow hiff hB
  go_wp2
  go_ret
  exact HP.out
/-- A reader of whatever bytes. -/
theorem openq_all (A : Option Addr) (n c : Nat) (bs : List Int) (w : World) (hA : Row w A (bs.map (Value.int .u8))) (hn : n ≤ 1000000) (hz : n = bs.length) (hnil : A = none → c = 0) :
    Calls Tryd.prog 42 #[.slice A n c] w (OpenPq w bs) := by
  rcases Nat.eq_zero_or_pos n with h0 | h0
  · subst h0
    have hb : bs = [] := List.eq_nil_of_length_eq_zero hz.symm
    subst hb
    cases A with
    | none => rw [hnil rfl]; exact openq_none w
    | some ad => exact openq_zero ad c w
  · exact openq_any A n c bs w hA hn hz h0
end Go.Proofs.YthogafecplhckaaDoor
