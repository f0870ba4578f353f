import Derived.Test.YtgegmbkjkiifaaaGF
import Derived.Lib.AppendStr
import Derived.Laws.AppendOwnNone
namespace Go.Proofs.Ytgegmbkjkiifaaa
open Go.RowKit
set_option linter.unusedSimpArgs false
/-- A text's bytes. -/
def sB (s : ByteArray) : List Int := s.data.toList.map fun b => (b.toNat : Int)
theorem sB_length (s : ByteArray) : (sB s).length = s.size := by simp [sB]
theorem strCells_sB (s : ByteArray) : Lib.strCells s = (sB s).map (Value.int .u8) := by simp [Lib.strCells, sB]
theorem sB_bytes (s : ByteArray) : bytes (sB s) := by
  intro x hx
  simp only [sB, List.mem_map] at hx
  obtain ⟨b, _, rfl⟩ := hx
  have := b.toNat_lt
  omega
set_option maxRecDepth 100000 in
set_option maxHeartbeats 1000000 in
theorem text_any (A : Option Addr) (n c : Nat) (bs : List Int) (s : ByteArray) (w : World) (hA : Row w A (bs.map (Value.int .u8))) (hn : n ≤ 1000000) (hz : n = bs.length) (hnc : n ≤ c) (hs : s.size ≤ 1000000) :
    Calls Try.prog 35 #[.slice A n c, .string s] w (MadeB w (bs ++ encV s.size ++ sB s)) := by
  have HZ := Lib.hid hz
  clear hz
  obtain ⟨i0, hi0, hz0, hz1, hz2⟩ := info_parts Try.info5
  go_enter Try.func35, Try.ntmps35
  go_wp2_with fail
  refine (int_any A n c bs _ _ hA hn HZ.out hnc (by omega) (by omega)).mono ?_
  rintro e w1 ⟨g, cap, rfl, hcap, hown, hB⟩
  obtain ⟨m, hm⟩ : ∃ m, m = (bs ++ encV s.size).length := ⟨_, rfl⟩
  have hm2 : m ≤ 1000010 := by
    rw [hm, List.length_append, encV, encI_length, ← HZ.out]; have := groups_bd (foldZ s.size).toNat; omega
  have hm1 : 1 ≤ m := by
    rw [hm, List.length_append, encV, encI_length, ← HZ.out]; have := groups_bd (foldZ s.size).toNat; omega
  rw [← hm] at hcap hown ⊢
  clear hm
  go_wp2_with (at_builtin; refine Lib.wpList_append_own_string _ rfl _ _ 40 9 rfl w.heap.size 5 i0 Try.underlying40 Try.underlying9 hi0 hz0 hz1 hz2 _ _ _ rfl hown s rfl ?h1 ?h2 ?h3 ?_)
  case h1 => unfold maxLen; omega
  case h2 => omega
  case h3 => exact hB.size
  intro v' w2 hown' hgrow _
  have hB' : Below w.heap.size w w2 := hB.grown hgrow hB.size (fun k hk => (hown.lt k hk).1)
  have hown2 : w2.ownsRow w.heap.size 5 1 v' (m + s.size) ((bs ++ encV s.size ++ sB s).map (Value.int .u8)) := by simpa [strCells_sB] using hown'
  have HP := Lib.hid (MadeB.of hB' hown2 (show 0 < m + s.size by omega))
  clear hown hown' hown2 hgrow hB hB'
  go_wp2
  go_ret
  exact HP.out
/-- A reader whose bytes are left. -/
def Rd (w : World) (rb : Nat) (bs : List Int) : Prop :=
  ∃ A n c, w.cell? ⟨rb, 0, none⟩ = some (.slice A n c) ∧ n = bs.length ∧ n ≤ c ∧ n ≤ 1000000 ∧ (∀ o, w.frozen? ⟨rb, o, none⟩ = false) ∧
    (bs = [] ∨ ∃ b off, A = some ⟨b, off, none⟩ ∧ b ≠ rb ∧ ∀ j u, (bs.map (Value.int .u8))[j]? = some u → w.cell? ⟨b, off + j, none⟩ = some u)
theorem Rd.keep {w w' : World} {rb : Nat} {bs : List Int} (h : Rd w rb bs) (hb : Below w.heap.size w w') : Rd w' rb bs := by
  obtain ⟨A, n, c, h1, h2, h3, h4, h5, h6⟩ := h
  obtain ⟨hc, hf⟩ := bcell hb
  have hl := lt_of_cell h1
  refine ⟨A, n, c, (hc _ _ hl).trans h1, h2, h3, h4, fun o => (hf _ _ hl).trans (h5 o), ?_⟩
  rcases h6 with h6 | ⟨b, off, h7, h8, h9⟩
  · exact .inl h6
  · exact .inr ⟨b, off, h7, h8, fun j u hu => (hc _ _ (lt_of_cell (h9 j u hu))).trans (h9 j u hu)⟩
theorem Rd.lt {w : World} {rb : Nat} {bs : List Int} (h : Rd w rb bs) : rb < w.heap.size := by
  obtain ⟨A, n, c, h1, _⟩ := h; exact lt_of_cell h1
def OpenPost (w : World) (bs : List Int) (e : Ending) (w' : World) : Prop :=
  ∃ rb, e = .returned (.pointer (some ⟨rb, 0, none⟩)) ∧ w.heap.size ≤ rb ∧ Rd w' rb bs ∧ Below w.heap.size w w'
set_option maxRecDepth 100000 in
set_option maxHeartbeats 1000000 in
theorem open_some (b off n c : Nat) (bs : List Int) (w : World) (hA : Row w (some ⟨b, off, none⟩) (bs.map (Value.int .u8))) (hn : n ≤ 1000000) (hz : n = bs.length) (hpos : 0 < n) :
    Calls Try.prog 38 #[.slice (some ⟨b, off, none⟩) n c] w (OpenPost w bs) := by
  have HZ := Lib.hid hz
  clear hz
  obtain ⟨i0, hi0, hz0, hz1, hz2⟩ := info_parts Try.info5
  go_enter Try.func38, Try.ntmps38
  go_wp2_with (at_builtin; refine wpList_append_own _ rfl _ _ 40 rfl w.heap.size 5 i0 (.int .u8 0) 1 1 Try.underlying40 hi0 hz0 hz1 hz2 rfl (by decide) (.slice none 0 0) 0 [] rfl (World.ownsRow_nil _ _ _ _) ⟨b, off, none⟩ n c (bs.map (Value.int .u8)) rfl ?h1 ?h2 ?h3 ?h4 ?h5 ?h6 ?_)
  case h1 => have := HZ.out; simp; omega
  case h2 => exact hA.adds _ rfl
  case h3 => intro u hu; simp at hu; obtain ⟨x, _, rfl⟩ := hu; rfl
  case h4 => unfold maxLen; omega
  case h5 => omega
  case h6 => exact Nat.le_refl _
  intro v' w1 hown hgrow _
  have hB : Below w.heap.size w w1 := (Below.refl _ _).grown hgrow (Nat.le_refl _) (by simp [Value.ownBlock])
  obtain ⟨g, cap, rfl, hcap, hrow⟩ := Row.of_own hown hpos
  have hg : g < w1.heap.size := by
    rcases hrow with h | ⟨b', off', he, hc⟩
    · have := HZ.out; simp at h; subst h; simp at this; omega
    · cases he; exact (hown.lt g rfl).2
  have hrow' := hrow.keep (Nat.le_refl _) (bpush (Below.refl _ _) (.cells #[.slice (some ⟨g, 0, none⟩) n cap] 87))
  have HP : Hid (OpenPost w bs (.returned (.pointer (some ⟨w1.heap.size, 0, none⟩))) (w1.alloc (.cells #[.slice (some ⟨g, 0, none⟩) n cap] 87))) := by
    refine ⟨_, rfl, hB.size, ⟨some ⟨g, 0, none⟩, n, cap, by simp, HZ.out, hcap, hn, fun o => by simp, ?_⟩, bpush hB _⟩
    rcases hrow' with h | ⟨b', off', he, hc⟩
    · exact .inl (by simpa using h)
    · cases he; exact .inr ⟨g, 0, rfl, by omega, hc⟩
  clear hown hgrow hB hrow hrow'
  go_wp2
  go_ret
  exact HP.out
set_option maxRecDepth 100000 in
set_option maxHeartbeats 1000000 in
theorem open_none (w : World) :
    Calls Try.prog 38 #[.slice none 0 0] w (OpenPost w []) := by
  obtain ⟨i0, hi0, hz0, hz1, hz2⟩ := info_parts Try.info5
  have HP : Hid (OpenPost w [] (.returned (.pointer (some ⟨w.heap.size, 0, none⟩))) (w.alloc (.cells #[.slice none 0 0] 87))) :=
    ⟨_, rfl, Nat.le_refl _, ⟨none, 0, 0, by simp, rfl, Nat.le_refl _, by omega, fun o => by simp, .inl rfl⟩, bpush (Below.refl _ _) _⟩
  go_enter Try.func38, Try.ntmps38
  go_wp2_with (at_builtin; refine wpList_append_own_none rfl _ _ 40 rfl w.heap.size 5 i0 1 Try.underlying40 hi0 (.slice none 0 0) 0 [] rfl (World.ownsRow_nil _ _ _ _) rfl ?_)
  go_ret
  exact HP.out
theorem open_any (A : Option Addr) (n c : Nat) (bs : List Int) (w : World) (hA : Row w A (bs.map (Value.int .u8))) (hn : n ≤ 1000000) (hz : n = bs.length) (hpos : 0 < n) :
    Calls Try.prog 38 #[.slice A n c] w (OpenPost w bs) := by
  obtain ⟨b, off, rfl⟩ := hA.head (by omega)
  exact open_some b off n c bs w hA hn hz hpos
/-- What a reading call leaves of a reader. -/
def ReadPost (w : World) (rb : Nat) (v : Value) (err : Int) (bs : List Int) (e : Ending) (w' : World) : Prop :=
  e = .returned (.tuple #[v, .int .i64 err]) ∧ Rd w' rb bs ∧ w.grownBy w' (some rb)
theorem grown_refl (w : World) (row : Option Nat) : w.grownBy w row := World.grownBy.refl w row
theorem Rd.put {w : World} {rb : Nat} {bs cs : List Int} {A : Option Addr} {n c : Nat} (h : Rd w rb bs) (hn : n = cs.length) (hnc : n ≤ c) (hn2 : n ≤ 1000000)
    (hA : cs = [] ∨ ∃ b off, A = some ⟨b, off, none⟩ ∧ b ≠ rb ∧ ∀ j u, (cs.map (Value.int .u8))[j]? = some u → w.cell? ⟨b, off + j, none⟩ = some u) :
    Rd (w.setCell ⟨rb, 0, none⟩ (.slice A n c)) rb cs ∧ w.grownBy (w.setCell ⟨rb, 0, none⟩ (.slice A n c)) (some rb) := by
  obtain ⟨A0, n0, c0, h1, _, _, _, h5, _⟩ := h
  refine ⟨⟨A, n, c, World.cell?_setCell_same' w _ _ (by rw [h1]; rfl), hn, hnc, hn2, fun o => by rw [World.frozen?_setCell]; exact h5 o, ?_⟩, ?_⟩
  · rcases hA with hA | ⟨b, off, h7, h8, h9⟩
    · exact .inl hA
    · exact .inr ⟨b, off, h7, h8, fun j u hu => (World.cell?_setCell_other w _ _ _ (fun e => h8 (by have := congrArg Addr.block e; simpa using this.symm))).trans (h9 j u hu)⟩
  · exact ⟨rfl, rfl, rfl, by simp [World.setCell], fun i hi hne => Below.heap_setCell w _ _ i (fun e => hne (by rw [e]))⟩
set_option maxRecDepth 100000 in
set_option maxHeartbeats 1000000 in
theorem rint_bad (rb : Nat) (bs : List Int) (lo hi : Int) (w : World) (hR : Rd w rb bs) (hb : bytes bs) (v : Int) (l : Nat) (hp : numP bs = (v, l)) (hbad : l = 0 ∨ v < lo ∨ hi < v) :
    Calls Try.prog 39 #[.pointer (some ⟨rb, 0, none⟩), .int .i64 lo, .int .i64 hi] w (ReadPost w rb (.int .i64 0) 11 bs) := by
  have hR' := Lib.hid hR
  obtain ⟨A, n, c, h1, h2, h3, h4, h5, h6⟩ := hR
  have H2 := Lib.hid h2
  have HP := Lib.hid hp
  have HB := Lib.hid hb
  have hrow : Row w A (bs.map (Value.int .u8)) := by
    rcases h6 with rfl | ⟨b, off, h7, h8, h9⟩
    · exact .inl rfl
    · exact .inr ⟨b, off, h7, h9⟩
  clear h2 hp hb h6
  go_enter Try.func39, Try.ntmps39
  go_wp2_with fail
  refine (number_any A n c bs w hrow (by omega) H2.out HB.out v l HP.out).mono ?_
  rintro e w1 ⟨rfl, rfl⟩
  by_cases hl : l = 0
  · subst hl
    go_wp2
    go_ret2
    exact ⟨rfl, hR'.out, grown_refl _ _⟩
  · have hl' : (1 : Int) ≤ (l : Int) := by omega
    have hl2 : ((l : Int) == 0) = false := by simp; omega
    by_cases h7 : v < lo
    · go_wp2
      go_ret2
      exact ⟨rfl, hR'.out, grown_refl _ _⟩
    · have h8 : hi < v := by omega
      go_wp2
      go_ret2
      exact ⟨rfl, hR'.out, grown_refl _ _⟩
theorem numP_len {bs : List Int} {v : Int} {l : Nat} (h : numP bs = (v, l)) : l ≤ bs.length ∧ (0 < l → 0 < bs.length) ∧ -9223372036854775808 ≤ v ∧ v ≤ 9223372036854775807 := by
  unfold numP at h
  cases hn : numAux 0 0 bs with
  | none => rw [hn] at h; simp only [Prod.mk.injEq] at h; omega
  | some p =>
    obtain ⟨u, k⟩ := p
    have := num_le bs 0 0 u k hn
    rw [hn] at h
    simp only [Prod.mk.injEq] at h
    have hb := unfold_bd (u := (u : Int)) (by omega) (by omega)
    rw [h.1] at hb
    omega
set_option maxRecDepth 100000 in
set_option maxHeartbeats 1000000 in
theorem rint_good (rb : Nat) (bs : List Int) (lo hi : Int) (w : World) (hR : Rd w rb bs) (hb : bytes bs) (v : Int) (l : Nat) (hp : numP bs = (v, l)) (hl : 0 < l) (hv1 : lo ≤ v) (hv2 : v ≤ hi) :
    Calls Try.prog 39 #[.pointer (some ⟨rb, 0, none⟩), .int .i64 lo, .int .i64 hi] w (ReadPost w rb (.int .i64 v) 0 (bs.drop l)) := by
  have hR' := Lib.hid hR
  obtain ⟨A, n, c, h1, h2, h3, h4, h5, h6⟩ := hR
  have H2 := Lib.hid h2
  have HP := Lib.hid hp
  have HB := Lib.hid hb
  obtain ⟨hln, hl0, -, -⟩ := numP_len hp
  have hfz := h5 0
  rcases h6 with rfl | ⟨b, off, rfl, h8, h9⟩
  · simp at hl0; omega
  have hrow : Row w (some ⟨b, off, none⟩) (bs.map (Value.int .u8)) := .inr ⟨b, off, rfl, h9⟩
  have hln' : l ≤ n := by omega
  have hl2 : ((l : Int) == 0) = false := by simp; omega
  have h9' := Lib.hid h9
  clear h2 hp hb h5 h9 hl0 hln
  by_cases hcl : c = l
  · have hQ := hR'.out.put (cs := bs.drop l) (A := some ⟨b, off, none⟩) (n := 0) (c := 0) (by rw [List.length_drop, ← H2.out]; omega) (by omega) (by omega) (.inl (List.drop_of_length_le (by have := H2.out; omega)))
    have HQ := Lib.hid hQ
    subst hcl
    clear hQ
    go_enter Try.func39, Try.ntmps39
    go_wp2_with fail
    refine (number_any _ n c bs w hrow (by omega) H2.out HB.out v c HP.out).mono ?_
    rintro e w1 ⟨rfl, rfl⟩
    go_wp2
    go_ret2
    exact ⟨rfl, HQ.out.1, HQ.out.2⟩
  · have hQ := hR'.out.put (cs := bs.drop l) (A := some ⟨b, off + l, none⟩) (n := n - l) (c := c - l) (by rw [List.length_drop, ← H2.out]) (by omega) (by omega)
      (.inr ⟨b, off + l, rfl, h8, fun j u hu => by
        have := h9'.out (l + j) u (by rw [List.getElem?_map, List.getElem?_drop] at hu; rw [List.getElem?_map]; exact hu)
        rwa [← Nat.add_assoc] at this⟩)
    have HQ := Lib.hid hQ
    clear hQ
    go_enter Try.func39, Try.ntmps39
    go_wp2_with fail
    refine (number_any _ n c bs w hrow (by omega) H2.out HB.out v l HP.out).mono ?_
    rintro e w1 ⟨rfl, rfl⟩
    go_wp2
    go_ret2
    exact ⟨rfl, HQ.out.1, HQ.out.2⟩
end Go.Proofs.Ytgegmbkjkiifaaa
