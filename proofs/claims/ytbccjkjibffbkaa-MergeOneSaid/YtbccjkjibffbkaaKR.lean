/- MergeOne (6). -/
import Derived.Test.YtbccjkjibffbkaaKN
namespace Go.Proofs.Ytbccjkjibffbkaa
open Go.RowKit Go.Shelf
set_option linter.unusedSimpArgs false
set_option linter.unusedVariables false
theorem and1023 (m : Int) : ∃ q : Nat, q ≤ 1023 ∧ bits .and .i64 m 1023 = (q : Int) := by
  refine ⟨(BitVec.ofInt 64 m &&& BitVec.ofInt 64 1023).toNat, ?_, ?_⟩
  · have h : (BitVec.ofInt 64 m &&& BitVec.ofInt 64 1023).toNat ≤ 1023 := by rw [BitVec.toNat_and]; exact Nat.and_le_right
    exact h
  · have h : (BitVec.ofInt 64 m &&& BitVec.ofInt 64 1023).toNat ≤ 1023 := by rw [BitVec.toNat_and]; exact Nat.and_le_right
    show IntKind.i64.wrap ((BitVec.ofInt 64 m &&& BitVec.ofInt 64 1023).toNat : Int) = _
    exact IntWalk.i64_in _ (by omega)
theorem slice_lists (b off n c lo : Nat) (h1 : lo < n) (h3 : n ≤ c) (W : World) : Sem.run Try.prog (Instr.slice 25 (.slice (some ⟨b, off, none⟩) n c) (some (.int .i64 (lo : Int))) (some (.int .i64 ((lo : Int) + 1))) none) W = .ok (.slice (some ⟨b, off + lo, none⟩) 1 (c - lo)) W := by
  have hs : ∀ W, Sem.run Try.prog (Go.sizeOf (Try.prog.elem 25)) W = .ok 1 W := fun _ => by kernel_rfl
  have e : Try.prog.elem 25 = 28 := by kernel_rfl
  have e0 : ((lo : Int) + 1) = ((lo + 1 : Nat) : Int) := by omega
  rw [e0, run_slice_lh W 25 (some ⟨b, off, none⟩) n c (by rw [e]; exact Try.underlying25) .i64 .i64 lo (lo + 1 : Nat) (by omega) (by omega) (by omega), hs]
  have e2 : (⟨b, off, none⟩ : Addr).add (lo * 1) = ⟨b, off + lo, none⟩ := by
    rw [Nat.mul_one]
    unfold Addr.add; split
    · rename_i h; rw [h]; rfl
    · rfl
  simp only [Result.andThen, sliced, Int.toNat_natCast, Option.map_some, e2]
  rw [if_neg (by omega), Nat.add_sub_cancel_left]
/-- One list alone, and empty ones. -/
theorem alone_sorted {q : Nat} {x : Le} {L : List Le} (hL : L = [⟨none, 0, 0, []⟩, x, ⟨none, 0, 0, []⟩]) (hs : SrtD x.Z) (hq : ∀ z ∈ x.Z, OkR q z.2) : listsR L = (x.Z.map Prod.snd, 0) := by
  refine lists_perm hs (fun y hy => ?_) ?_ hq
  · rw [hL] at hy
    simp only [List.mem_cons, List.not_mem_nil, or_false] at hy
    rcases hy with rfl | rfl | rfl
    · exact List.nil_sublist _
    · exact List.Sublist.refl _
    · exact List.nil_sublist _
  · rw [hL]
    show ([] ++ (x.Z ++ ([] ++ []))).Perm x.Z
    rw [List.nil_append, List.nil_append, List.append_nil]
theorem alone_not {x : Le} {L : List Le} (hx : x ∈ L) (hs : ¬ SrtD x.Z) : listsR L = ([], 131) ∧ statsN L = 0 ∧ statsK L = 0 := by
  have hn : ¬ allS L = true := fun h => hs ((allS_iff L).1 h x hx)
  unfold listsR statsN statsK
  rw [if_neg hn, if_neg hn, if_neg hn]
  exact ⟨rfl, rfl, rfl⟩
theorem one_stats {q : Nat} {x : Le} (hs : SrtD x.Z) (hq : ∀ z ∈ x.Z, OkR q z.2) : statsN [x] = x.Z.length ∧ statsK [x] = x.Z.length := by
  have ha : allS [x] = true := (allS_iff _).2 fun y hy => by rw [List.mem_singleton.1 hy]; exact hs
  have hf : ([x].map Le.Z).flatten = x.Z := by show x.Z ++ [] = _; rw [List.append_nil]
  unfold statsN statsK
  rw [if_pos ha, if_pos ha, hf]
  refine ⟨rfl, ?_⟩
  have hK : ∀ a ∈ x.Z.map Prod.snd, OkR q a := fun a ha => by obtain ⟨z, hz, rfl⟩ := List.mem_map.1 ha; exact hq z hz
  rw [keysN_refF hK (strict_self (srt_strictK hs) hK), List.length_map]
/-- One list, merged with itself. -/
theorem twice_lists {q : Nat} {x : Le} {Y : List RZ} {e : Int} (hs : SrtD x.Z) (hq : ∀ z ∈ x.Z, OkR q z.2) (h : listsR [x, x] = (Y.map Prod.snd, e)) : (e = 0 → Y.length = x.Z.length ∧ ∀ j (h1 : j < Y.length) (h2 : j < x.Z.length), Y[j].2.count = 2 * x.Z[j].2.count) ∧ (e ≠ 0 → Y = []) := by
  have ha : allS [x, x] = true := (allS_iff _).2 fun y hy => by
    simp only [List.mem_cons, List.not_mem_nil, or_false, or_self] at hy
    rw [hy]; exact hs
  have hf : ([x, x].map Le.Z).flatten = x.Z ++ x.Z := by show x.Z ++ (x.Z ++ []) = _; rw [List.append_nil]
  unfold listsR at h
  rw [if_pos ha, hf, List.map_append] at h
  have hK : ∀ a ∈ x.Z.map Prod.snd, OkR q a := fun a ha => by obtain ⟨z, hz, rfl⟩ := List.mem_map.1 ha; exact hq z hz
  constructor
  · rintro rfl
    obtain ⟨h1, h2⟩ := twice_of (srt_strictK hs) hK h
    have hl : Y.length = x.Z.length := by have := congrArg List.length h1; simpa using this
    refine ⟨hl, fun j h3 h4 => ?_⟩
    have h5 : (Y.map Prod.snd)[j]'(by rw [List.length_map]; exact h3) = ((x.Z.map Prod.snd).map dbl)[j]'(by rw [List.length_map, List.length_map]; exact h4) := by simp only [h1]
    rw [List.getElem_map, List.getElem_map, List.getElem_map] at h5
    rw [h5]
    exact dbl_count (h2 _ (List.mem_map.2 ⟨_, List.getElem_mem h4, rfl⟩))
  · intro he
    have hKK : ∀ a ∈ x.Z.map Prod.snd ++ x.Z.map Prod.snd, OkR q a := fun a ha => (List.mem_append.1 ha).elim (hK a) (hK a)
    rcases refF_all (q := q) (x.Z.map Prod.snd ++ x.Z.map Prod.snd) [] [] FoldOf.nil (fun a ha => absurd ha List.not_mem_nil) (fun a ha => absurd ha List.not_mem_nil) hKK with ⟨h1, _⟩ | ⟨_, h2, _⟩
    · rw [h] at h1; exact absurd h1 he
    · rw [h] at h2; exact List.map_eq_nil_iff.1 h2
structure Cnt (yb yo b p zb zo : Nat) (cy : Int) (x : Value) (cz : Int) (W : World) : Prop where
  y : W.cell? ⟨yb, yo, none⟩ = some (.int .i64 cy)
  x : W.cell? ⟨b, p, none⟩ = some x
  z : W.cell? ⟨zb, zo, none⟩ = some (.int .i64 cz)
theorem Cnt.keep {yb yo b p zb zo : Nat} {cy cz : Int} {x : Value} {W W' : World} (h : Cnt yb yo b p zb zo cy x cz W) (hb : Below W.heap.size W W') : Cnt yb yo b p zb zo cy x cz W' := ⟨cell_later hb h.y, cell_later hb h.x, cell_later hb h.z⟩
set_option maxRecDepth 100000 in
set_option maxHeartbeats 16000000 in
theorem one_walk (A B C : Option Addr) (n c m d k cap : Nat) (i : Int) (N M : List ByteArray) (L : List Le) (w : World) (hs : Sch w A B n c m d N M) (hL : Ls0 w C L) (hk : k = L.length) (hk2 : k ≤ 9223372036854775807) (hkc : k ≤ cap) :
    Calls Try.prog 6 #[.agg #[.slice A n c, .slice B m d], .slice C k cap, .int .i64 i] w fun e w' => e = .returned (.bool true) ∧ Below w.heap.size w w' := by
  obtain ⟨W1, hW1⟩ : ∃ W1, W1 = w.alloc (.cells #[.slice A n c, .slice B m d] 24) := ⟨_, rfl⟩
  have hb1 : Below w.heap.size w W1 := by rw [hW1]; exact bpush (Below.refl _ _) _
  have s0 : W1.cell? ⟨w.heap.size, 0, none⟩ = some (.slice A n c) := by rw [hW1]; exact cell_made rfl rfl
  have s1 : W1.cell? ⟨w.heap.size, 1, none⟩ = some (.slice B m d) := by rw [hW1]; exact cell_made rfl rfl
  obtain ⟨r, hr⟩ := bool_of (fitsL N M L)
  have HFT := Lib.hid (fitsl_any A B C n c m d k cap N M L W1 (hs.keep hb1) (hL.keep hb1) hk hk2 r hr)
  have HB1 := Lib.hid hb1
  have HLS := Lib.hid (hL.keep hb1)
  have HK := Lib.hid hk
  have HR := Lib.hid hr
  have HW1 := Lib.hid hW1
  have HAL := Lib.hid (fun W => alive_any W)
  obtain ⟨sb, hsb⟩ : ∃ sb, sb = w.heap.size := ⟨_, rfl⟩
  have HSB := Lib.hid hsb
  clear hs hL hk hr hW1 hb1 hsb
  by_cases hok : r = true ∧ k ≠ 0
  case neg =>
    go_enter Try.func6, Try.ntmps6
    go_upto_region 1 with fail
    rw [← HW1.out, ← HSB.out]
    rw [← HSB.out] at s0 s1
    go_upto_region 2 with (go_at_call 7; refine HFT.out.mono ?_; rintro e w2 ⟨rfl, hb⟩; have HB2 := Lib.hid hb; clear hb)
    have hz : r = false ∨ (r = true ∧ k = 0) := by
      cases r <;> simp at hok ⊢
      exact hok
    rcases hz with rfl | ⟨rfl, hz⟩ <;> (
      clear hok
      go_wp2_with (go_at_call 8; refine (HAL.out _).mono ?_; rintro e w4 ⟨rfl, hb⟩; have HB4 := Lib.hid hb; clear hb)
      go_ret
      exact ⟨rfl, bthen (HB1.out.trans (HB2.out.mono HB1.out.size)) HB4.out⟩)
  case pos =>
    obtain ⟨rfl, hk0⟩ := hok
    have hft := HR.out.1 rfl
    have hk8 : k ≤ 8 := by have := hft.2.1; have := HK.out; omega
    have hin := fitsL_in hft HLS.out
    obtain ⟨qa, hqa, hand⟩ := and1023 i
    obtain ⟨p, hp⟩ : ∃ p, p = qa % k := ⟨_, rfl⟩
    have hpk : p < k := by rw [hp]; exact Nat.mod_lt _ (by omega)
    have hrem : Int.tmod (qa : Int) (k : Int) = (p : Int) := by rw [hp]; exact (Int.ofNat_tmod _ _).symm
    have hpL : p < L.length := by have := HK.out; omega
    obtain ⟨b, off, hCe, c0, hok⟩ := hin.at hpL
    obtain ⟨x, hx⟩ : ∃ x, x = L[p] := ⟨_, rfl⟩
    rw [← hx] at c0 hok
    have hxL : x ∈ L := by rw [hx]; exact List.getElem_mem hpL
    have hx200 : x.n ≤ 200 := by have := (hft.1 x hxL).2.2.1; rw [List.length_map] at this; have := hok.len; omega
    have HQ := Lib.hid (show ∀ z ∈ x.Z, RowQ M.length N.length z.2 from fun z hz => fitsL_q hft z (flat_at hxL hz))
    have HOK := Lib.hid hok
    have HC0 := Lib.hid c0
    have HXN := Lib.hid (show x.n = x.Z.length from hok.len)
    have sl := fun W => slice_lists b off k cap p hpk hkc W
    have hp0 : (0 : Int) ≤ (p : Int) := by omega
    have hp1 : (p : Int) < (k : Int) := by omega
    have hkne : ¬ ((k : Int) = 0) := by omega
    have ee : ∀ y : Le, encE y = .slice y.A y.n y.c := fun _ => rfl
    have HC3 := Lib.hid (show ∀ W, Below W1.heap.size W1 W → Calls Try.prog 9 #[.slice (some ⟨W.heap.size, 0, none⟩) 3 3] (W.alloc (.cells #[.slice none 0 0, .slice x.A x.n x.c, .slice none 0 0] 28)) (ListsPost (W.alloc (.cells #[.slice none 0 0, .slice x.A x.n x.c, .slice none 0 0] 28)) [⟨none, 0, 0, []⟩, x, ⟨none, 0, 0, []⟩]) from fun W hW => by
      have h := ls_built (w := W) (L := [⟨none, 0, 0, []⟩, x, ⟨none, 0, 0, []⟩]) (fun y hy => by
        simp only [List.mem_cons, List.not_mem_nil, or_false] at hy
        rcases hy with rfl | rfl | rfl
        · exact LeOk.nilL _
        · exact HOK.out.keep hW
        · exact LeOk.nilL _) (by show 3 ≤ 1000; decide) (by simp)
      have hf : (([⟨none, 0, 0, []⟩, x, ⟨none, 0, 0, []⟩] : List Le).map Le.Z).flatten = x.Z := by show [] ++ (x.Z ++ ([] ++ [])) = _; simp
      exact lists_any M.length (some ⟨W.heap.size, 0, none⟩) 3 3 _ _ h rfl (by show 3 ≤ 1900000; decide) (by rw [hf]; exact fun z hz => (HQ.out z hz).ok) (by rw [hf, ← HXN.out]; omega))
    have HC2 := Lib.hid (show ∀ W, Below W1.heap.size W1 W → Calls Try.prog 9 #[.slice (some ⟨W.heap.size, 0, none⟩) 2 2] (W.alloc (.cells #[.slice x.A x.n x.c, .slice x.A x.n x.c] 28)) (ListsPost (W.alloc (.cells #[.slice x.A x.n x.c, .slice x.A x.n x.c] 28)) [x, x]) from fun W hW => by
      have h := ls_built (w := W) (L := [x, x]) (fun y hy => by
        simp only [List.mem_cons, List.not_mem_nil, or_false, or_self] at hy
        rw [hy]; exact HOK.out.keep hW) (by show 2 ≤ 1000; decide) (by simp)
      have hf : (([x, x] : List Le).map Le.Z).flatten = x.Z ++ x.Z := by show x.Z ++ (x.Z ++ []) = _; simp
      exact lists_any M.length (some ⟨W.heap.size, 0, none⟩) 2 2 _ _ h rfl (by show 2 ≤ 1900000; decide) (by rw [hf]; exact fun z hz => ((List.mem_append.1 hz).elim (HQ.out z) (HQ.out z)).ok) (by rw [hf, List.length_append, ← HXN.out]; omega))
    have HCS := Lib.hid (show ∀ W, Below W1.heap.size W1 W → Calls Try.prog 11 #[.slice (some ⟨b, off + p, none⟩) 1 (cap - p)] W (StatsPost W [x]) from fun W hW => by
      refine stats_any (some ⟨b, off + p, none⟩) 1 (cap - p) [x] W ⟨.inr ⟨b, off + p, rfl, fun j u hu => ?_⟩, fun y hy => by rw [List.mem_singleton.1 hy]; exact HOK.out.keep hW, by show 1 ≤ 2000000; decide⟩ rfl (by show 1 ≤ 1900000; decide) (by show (x.Z ++ []).length ≤ 1000000; rw [List.append_nil, ← HXN.out]; omega)
      cases j with
      | zero => cases hu; exact cell_later hW HC0.out
      | succ j => cases hu)
    have HRS := Lib.hid (show ∀ W, Below W1.heap.size W1 W → Calls Try.prog 14 #[.slice x.A x.n x.c] W fun e w' => e = .returned (.bool (srtB x.Z)) ∧ Below W.heap.size W w' from fun W hW => refsrt_one (HOK.out.keep hW) HQ.out)
    subst hCe
    clear hft hin hx hxL hok hp hpL c0 ee
    obtain ⟨s, hsx⟩ : ∃ s, s = srtB x.Z := ⟨_, rfl⟩
    rw [← hsx] at HRS
    have HSX := Lib.hid hsx
    clear hsx
    go_enter Try.func6, Try.ntmps6
    go_upto_region 1 with fail
    rw [← HW1.out, ← HSB.out]
    rw [← HSB.out] at s0 s1
    go_upto_region 5 with (go_at_call 7; refine HFT.out.mono ?_; rintro e w2 ⟨rfl, hb⟩; have HB2 := Lib.hid hb; have c0 := cell_later hb HC0.out; clear hb)
    go_upto_region 6 with (go_at_call 9; refine (HC3.out _ HB2.out).mono ?_; rintro e w3 ⟨v3, Y3, x3, rfl, hl3, ho3, hy3, hb3⟩)
    have hb23 : Below w2.heap.size w2 w3 := (bpush (Below.refl _ _) _).trans (hb3.mono (by simp))
    have HB13 := Lib.hid (bthen HB2.out hb23)
    have HL3 := Lib.hid hl3
    obtain ⟨_, v3A, v3c, rfl, hvr3, hvc3, hvm3, _⟩ := own_sliceR ho3
    have HRC3 := Lib.hid (show RowsC w3 v3A Y3 ∧ v3c ≤ 9223372036854775807 from ⟨⟨hvr3, fun y hy => (hy3 y hy).good⟩, by unfold maxLen at hvm3; exact hvm3⟩)
    have HV3 := Lib.hid hvc3
    have c0 := cell_later HB13.out HC0.out
    clear hb3 hb23 hl3 ho3 hy3 hvr3 hvc3 hvm3
    go_upto_region 7 with (go_at_call 11; refine (HCS.out _ HB13.out).mono ?_; rintro e w4 ⟨rfl, hb4⟩; have HB34 := Lib.hid hb4; have HB14 := Lib.hid (bthen HB13.out hb4); clear hb4)
    have c0 := cell_later HB14.out HC0.out
    go_upto_region 8 with (go_at_call 14; refine (HRS.out _ HB14.out).mono ?_; rintro e w5 ⟨rfl, hb5⟩; have HB45 := Lib.hid hb5; have HB15 := Lib.hid (bthen HB14.out hb5); clear hb5)
    have c0 := cell_later HB15.out HC0.out
    cases s
    case false =>
      have hns : ¬ SrtD x.Z := fun h => by have := (srtB_iff _).2 h; rw [← HSX.out] at this; cases this
      have h3 := (alone_not (L := [⟨none, 0, 0, []⟩, x, ⟨none, 0, 0, []⟩]) (x := x) (by simp) hns).1
      have h1 := alone_not (L := [x]) (x := x) (by simp) hns
      rw [h1.2.1, h1.2.2]
      have hl3 := HL3.out
      rw [h3] at hl3
      obtain ⟨hY, rfl⟩ := Prod.mk.inj hl3
      have hY0 : Y3.length = 0 := by have := congrArg List.length hY; simp at this; simp [this]
      rw [hY0]
      have HBE := Lib.hid (show Below w.heap.size w w5 from HB1.out.trans (HB15.out.mono HB1.out.size))
      clear hns h3 h1 hl3 hY hY0
      go_wp2_with (go_at_call 8; refine (HAL.out _).mono ?_; rintro e w6 ⟨rfl, hb⟩; have HB6 := Lib.hid hb; clear hb)
      go_ret
      exact ⟨rfl, bthen HBE.out HB6.out⟩
    case true =>
      have hsd : SrtD x.Z := (srtB_iff _).1 HSX.out.symm
      have hl3 := HL3.out
      rw [alone_sorted rfl hsd (fun z hz => (HQ.out z hz).ok)] at hl3
      obtain ⟨hY, rfl⟩ := Prod.mk.inj hl3
      have hY0 : Y3.length = x.n := by have := congrArg List.length hY; simp at this; rw [HXN.out]; omega
      have h1 := one_stats hsd (fun z hz => (HQ.out z hz).ok)
      rw [h1.1, h1.2, ← HXN.out]
      have HSD := Lib.hid hsd
      have HV3 := HV3.out
      rw [hY0] at HV3 ⊢
      have HSM := Lib.hid (show Calls Try.prog 13 #[.slice v3A x.n v3c, .slice x.A x.n x.c] w5 fun e w' => e = .returned (.bool true) ∧ Below w5.heap.size w5 w' from
        refrows_any v3A x.A x.n v3c x.n x.c (Y3.map Prod.snd) (x.Z.map Prod.snd) w5 ((HRC3.out.1.keep (bthen HB34.out HB45.out)).rowsM) ((HOK.out.keep HB15.out).rows.rowsM) (by rw [List.length_map, hY0]) (by rw [List.length_map, HXN.out]) (by omega) (by omega) true (by simp [← hY]))
      clear hsd hl3 h1 hY hY0 HV3 HL3
      go_upto_region 11 with (go_at_call 13; refine HSM.out.mono ?_; rintro e w6 ⟨rfl, hb6⟩; have HB56 := Lib.hid hb6; have HB16 := Lib.hid (bthen HB15.out hb6); clear hb6)
      have c0 := cell_later HB16.out HC0.out
      obtain ⟨w7, hw7⟩ : ∃ w7, w7 = w6.drew := ⟨_, rfl⟩
      have hb7 : Below w6.heap.size w6 w7 := by rw [hw7]; exact below_drewN (Below.refl _ _) 1
      have HB17 := Lib.hid (bthen HB16.out hb7)
      refine wp_region_held_drew (S := fun W => W.cell? ⟨b, off + p, none⟩ = some (.slice x.A x.n x.c)) (by kernel_rfl) (by rw [← hw7]; exact cell_later HB17.out HC0.out) ?_
      intro hHeld
      rw [← hw7] at hHeld ⊢
      clear hw7 hb7 c0
      refine take_want (i := 0) (v := ?va0) rfl (by kernel_rfl) (by kernel_rfl) (by kernel_rfl) (fun _ _ _ h => h) (by rfl) ?ya0 (by assumption) ?ra0
      case ya0 => (intro w hSw; go_simp; all_goals with_reducible rfl)
      (try simp only [Act.put, List.setIfInBounds_toArray, List.set_cons_zero, List.set_cons_succ])
      refine take_want (i := 1) (v := ?va1) rfl (by kernel_rfl) (by kernel_rfl) (by kernel_rfl) (fun _ _ _ h => h) (by rfl) ?ya1 (by assumption) ?ra1
      case ya1 => (intro w hSw; go_simp; all_goals with_reducible rfl)
      (try simp only [Act.put, List.setIfInBounds_toArray, List.set_cons_zero, List.set_cons_succ])
      refine take_want (i := 2) (v := ?va2) rfl (by kernel_rfl) (by kernel_rfl) (by kernel_rfl) (fun _ _ _ h => h) (by rfl) ?ya2 (by assumption) ?ra2
      case ya2 => (intro w hSw; go_simp; all_goals with_reducible rfl)
      (try simp only [Act.put, List.setIfInBounds_toArray, List.set_cons_zero, List.set_cons_succ])
      refine take_want (i := 3) (v := ?va3) rfl (by kernel_rfl) (by kernel_rfl) (by kernel_rfl) (fun _ _ _ h => h) (by rfl) ?ya3 (by assumption) ?ra3
      case ya3 => (intro w hSw; go_simp; all_goals with_reducible rfl)
      (try simp only [Act.put, List.setIfInBounds_toArray, List.set_cons_zero, List.set_cons_succ])
      refine take_want (i := 4) (v := ?va4) rfl (by kernel_rfl) (by kernel_rfl) (by kernel_rfl) (fun _ _ _ h => h) (by rfl) ?ya4 (by assumption) ?ra4
      case ya4 => (intro w hSw; go_simp; all_goals with_reducible rfl)
      (try simp only [Act.put, List.setIfInBounds_toArray, List.set_cons_zero, List.set_cons_succ])
      refine take_want (i := 5) (v := ?va5) rfl (by kernel_rfl) (by kernel_rfl) (by kernel_rfl) (fun _ _ _ h => h) (by rfl) ?ya5 (by assumption) ?ra5
      case ya5 => (intro w hSw; go_simp; all_goals with_reducible rfl)
      (try simp only [Act.put, List.setIfInBounds_toArray, List.set_cons_zero, List.set_cons_succ])
      refine take_want (i := 6) (v := ?va6) rfl (by kernel_rfl) (by kernel_rfl) (by kernel_rfl) (fun _ _ _ h => h) (by rfl) ?ya6 (by assumption) ?ra6
      case ya6 => (intro w hSw; go_simp; all_goals with_reducible rfl)
      (try simp only [Act.put, List.setIfInBounds_toArray, List.set_cons_zero, List.set_cons_succ])
      refine take_want (i := 7) (v := ?va7) rfl (by kernel_rfl) (by kernel_rfl) (by kernel_rfl) (fun _ _ _ h => h) (by rfl) ?ya7 (by assumption) ?ra7
      case ya7 => (intro w hSw; go_simp; all_goals with_reducible rfl)
      (try simp only [Act.put, List.setIfInBounds_toArray, List.set_cons_zero, List.set_cons_succ])
      refine wpAnyH_ready (rs := [8]) (by kernel_rfl) (by simp) ?_
      refine AllReadyH.cons rfl (fun K hK => ?_) AllReadyH.nil
      go_simp
      refine hK.out _ _ (cell_later (bpush (Below.refl _ _) _) hHeld) (fun hHeld => ?_)
      clear hK K
      (try simp only [Act.put, List.setIfInBounds_toArray, List.set_cons_zero, List.set_cons_succ])
      refine wpAnyH_ready (rs := [9]) (by kernel_rfl) (by simp) ?_
      refine AllReadyH.cons rfl (fun K hK => ?_) AllReadyH.nil
      go_simp
      (go_at_call 9; refine (HC2.out _ HB17.out).mono ?_; rintro e w8 ⟨v8, Y8, x8, rfl, hl8, ho8, hy8, hb8⟩)
      have HB18 := Lib.hid (show Below W1.heap.size W1 w8 from (bpush HB17.out _).trans (hb8.mono (by simp; have := HB17.out.size; omega)))
      refine hK.out _ _ (cell_later HB18.out HC0.out) (fun hHeld => ?_)
      clear hK K hHeld
      (try simp only [Act.put, List.setIfInBounds_toArray, List.set_cons_zero, List.set_cons_succ])
      have hHeld := cell_later HB18.out HC0.out
      refine take_want (i := 10) (v := ?vb10) rfl (by kernel_rfl) (by kernel_rfl) (by kernel_rfl) (fun _ _ _ h => h) (by rfl) ?yb10 (by assumption) ?rb10
      case yb10 => (intro w hSw; go_simp; all_goals with_reducible rfl)
      (try simp only [Act.put, List.setIfInBounds_toArray, List.set_cons_zero, List.set_cons_succ])
      refine take_want (i := 11) (v := ?vb11) rfl (by kernel_rfl) (by kernel_rfl) (by kernel_rfl) (fun _ _ _ h => h) (by rfl) ?yb11 (by assumption) ?rb11
      case yb11 => (intro w hSw; go_simp; all_goals with_reducible rfl)
      (try simp only [Act.put, List.setIfInBounds_toArray, List.set_cons_zero, List.set_cons_succ])
      refine take_want (i := 12) (v := ?vb12) rfl (by kernel_rfl) (by kernel_rfl) (by kernel_rfl) (fun _ _ _ h => h) (by rfl) ?yb12 (by assumption) ?rb12
      case yb12 => (intro w hSw; go_simp; all_goals with_reducible rfl)
      (try simp only [Act.put, List.setIfInBounds_toArray, List.set_cons_zero, List.set_cons_succ])
      refine take_want (i := 13) (v := ?vb13) rfl (by kernel_rfl) (by kernel_rfl) (by kernel_rfl) (fun _ _ _ h => h) (by rfl) ?yb13 (by assumption) ?rb13
      case yb13 => (intro w hSw; go_simp; all_goals with_reducible rfl)
      (try simp only [Act.put, List.setIfInBounds_toArray, List.set_cons_zero, List.set_cons_succ])
      refine take_want (i := 14) (v := ?vb14) rfl (by kernel_rfl) (by kernel_rfl) (by kernel_rfl) (fun _ _ _ h => h) (by rfl) ?yb14 (by assumption) ?rb14
      case yb14 => (intro w hSw; go_simp; all_goals with_reducible rfl)
      (try simp only [Act.put, List.setIfInBounds_toArray, List.set_cons_zero, List.set_cons_succ])
      clear hHeld
      refine wpAnyH_done (by kernel_rfl) ?_ _
      have c0 := cell_later HB18.out HC0.out
      have htw := twice_lists HSD.out (fun z hz => (HQ.out z hz).ok) hl8
      obtain ⟨_, v8A, v8c, rfl, hvr8, hvc8, hvm8, _⟩ := own_sliceR ho8
      have HBE := Lib.hid (show Below w.heap.size w w8 from HB1.out.trans (HB18.out.mono HB1.out.size))
      by_cases hx8 : x8 = 0
      case neg =>
        have hY8 : Y8.length = 0 := by rw [htw.2 hx8]; rfl
        have z1 : (x8 == 0) = false := by rw [beq_eq_false_iff_ne]; exact hx8
        rw [hY8]
        clear htw hl8 ho8 hy8 hb8 hvr8 hvc8 hvm8 hY8
        go_upto_region 15 with fail
        go_loopw [17] (fun v17 wr => v17 = .int .i64 0 ∧ wr = w8) (fun _ _ => 0)
        case atStart => exact ⟨rfl, rfl⟩
        case round =>
          obtain ⟨rfl, rfl⟩ := hrel
          go_wp2_with (go_at_call 8; refine (HAL.out _).mono ?_; rintro e w9 ⟨rfl, hb⟩; have HB9 := Lib.hid hb; clear hb)
          go_ret
          exact ⟨rfl, bthen HBE.out HB9.out⟩
      case pos =>
      subst hx8
      obtain ⟨hly, hct⟩ := htw.1 rfl
      have hly2 : Y8.length = x.n := by rw [hly, HXN.out]
      have HCT := Lib.hid hct
      have HLY := Lib.hid hly2
      have HVR := Lib.hid hvr8
      rw [hly2] at hvc8 ⊢
      clear htw hl8 ho8 hy8 hb8 hvr8 hvm8 hly hct hly2
      go_upto_region 15 with fail
      go_loopw [17] (fun v17 wr => ∃ j : Nat, v17 = .int .i64 j ∧ j ≤ x.n ∧ Hid (Below w8.heap.size w8 wr)) (fun v17 _ => x.n - (intOf v17).toNat)
      case atStart => exact ⟨0, rfl, Nat.zero_le _, Lib.hid (Below.refl _ _)⟩
      case round =>
        obtain ⟨j, rfl, hjn, HBJ⟩ := hrel
        obtain ⟨wj, rfl⟩ : ∃ wj : World, wj = wr := ⟨_, rfl⟩
        clear c0
        by_cases hlt : j < x.n
        case neg =>
          have hki : ¬ ((j : Int) < (x.n : Int)) := by omega
          clear hlt
          go_wp2_with (go_at_call 8; refine (HAL.out _).mono ?_; rintro e w9 ⟨rfl, hb⟩; have HB9 := Lib.hid hb; clear hb)
          go_ret
          exact ⟨rfl, bthen (bthen HBE.out HBJ.out) HB9.out⟩
        case pos =>
        have hj0 : (0 : Int) ≤ (j : Int) := by omega
        have hj1 : (j : Int) < (x.n : Int) := by omega
        have hjY : j < Y8.length := by have := HLY.out; omega
        have hjZ : j < x.Z.length := by have := HXN.out; omega
        obtain ⟨yb, yo, rfl, y0, y1, y2, y3⟩ := row4 (HVR.out.keep (Nat.le_refl _) HBJ.out) hjY
        obtain ⟨zb, zo, hxA, z0, z1, z2, z3⟩ := row4 (((HOK.out.keep HB18.out).keep HBJ.out).rows.row) hjZ
        rw [HCT.out j hjY hjZ] at y2
        obtain ⟨ct, hct⟩ : ∃ ct, ct = x.Z[j].2.count := ⟨_, rfl⟩
        have hcb := (HQ.out _ (List.getElem_mem hjZ)).ok
        have hc1 : 0 ≤ ct := by rw [hct]; exact hcb.lo
        have hc2 : ct ≤ 1048576 := by rw [hct]; exact hcb.hi
        rw [← hct] at y2 z2
        have hmw : IntKind.i64.wrap (2 * ct) = 2 * ct := IntWalk.i64_in _ (by omega)
        have HCN := Lib.hid (show Cnt yb (yo + j * 4 + 2) b (off + p) zb (zo + j * 4 + 2) (2 * ct) (.slice (some ⟨zb, zo, none⟩) x.n x.c) ct wj from ⟨y2, by rw [← hxA]; exact cell_later HBJ.out (cell_later HB18.out HC0.out), z2⟩)
        clear hcb hct y0 y1 y2 y3 z0 z1 z2 z3 hlt hjY hjZ
        go_upto_region 17 with fail
        refine wp_region_held_drew (S := Cnt yb (yo + j * 4 + 2) b (off + p) zb (zo + j * 4 + 2) (2 * ct) (.slice (some ⟨zb, zo, none⟩) x.n x.c) ct) (by kernel_rfl) (HCN.out.keep (below_drewN (Below.refl _ _) 1)) ?_
        intro hHeld
        refine take_want (i := 0) (v := ?vc0) rfl (by kernel_rfl) (by kernel_rfl) (by kernel_rfl) (fun _ _ _ h => h) (by rfl) ?yc0 (by assumption) ?rc0
        case yc0 => (intro w hSw; obtain ⟨s0, s1, s2⟩ := hSw; go_simp; all_goals with_reducible rfl)
        (try simp only [Act.put, List.setIfInBounds_toArray, List.set_cons_zero, List.set_cons_succ])
        refine take_want (i := 1) (v := ?vc1) rfl (by kernel_rfl) (by kernel_rfl) (by kernel_rfl) (fun _ _ _ h => h) (by rfl) ?yc1 (by assumption) ?rc1
        case yc1 => (intro w hSw; obtain ⟨s0, s1, s2⟩ := hSw; go_simp; all_goals with_reducible rfl)
        (try simp only [Act.put, List.setIfInBounds_toArray, List.set_cons_zero, List.set_cons_succ])
        refine take_want (i := 2) (v := ?vc2) rfl (by kernel_rfl) (by kernel_rfl) (by kernel_rfl) (fun _ _ _ h => h) (by rfl) ?yc2 (by assumption) ?rc2
        case yc2 => (intro w hSw; obtain ⟨s0, s1, s2⟩ := hSw; go_simp; all_goals with_reducible rfl)
        (try simp only [Act.put, List.setIfInBounds_toArray, List.set_cons_zero, List.set_cons_succ])
        refine take_want (i := 3) (v := ?vc3) rfl (by kernel_rfl) (by kernel_rfl) (by kernel_rfl) (fun _ _ _ h => h) (by rfl) ?yc3 (by assumption) ?rc3
        case yc3 => (intro w hSw; obtain ⟨s0, s1, s2⟩ := hSw; go_simp; all_goals with_reducible rfl)
        (try simp only [Act.put, List.setIfInBounds_toArray, List.set_cons_zero, List.set_cons_succ])
        refine take_want (i := 4) (v := ?vc4) rfl (by kernel_rfl) (by kernel_rfl) (by kernel_rfl) (fun _ _ _ h => h) (by rfl) ?yc4 (by assumption) ?rc4
        case yc4 => (intro w hSw; obtain ⟨s0, s1, s2⟩ := hSw; go_simp; all_goals with_reducible rfl)
        (try simp only [Act.put, List.setIfInBounds_toArray, List.set_cons_zero, List.set_cons_succ])
        refine take_want (i := 5) (v := ?vc5) rfl (by kernel_rfl) (by kernel_rfl) (by kernel_rfl) (fun _ _ _ h => h) (by rfl) ?yc5 (by assumption) ?rc5
        case yc5 => (intro w hSw; obtain ⟨s0, s1, s2⟩ := hSw; go_simp; all_goals with_reducible rfl)
        (try simp only [Act.put, List.setIfInBounds_toArray, List.set_cons_zero, List.set_cons_succ])
        refine take_want (i := 6) (v := ?vc6) rfl (by kernel_rfl) (by kernel_rfl) (by kernel_rfl) (fun _ _ _ h => h) (by rfl) ?yc6 (by assumption) ?rc6
        case yc6 => (intro w hSw; obtain ⟨s0, s1, s2⟩ := hSw; go_simp; all_goals with_reducible rfl)
        (try simp only [Act.put, List.setIfInBounds_toArray, List.set_cons_zero, List.set_cons_succ])
        refine take_want (i := 7) (v := ?vc7) rfl (by kernel_rfl) (by kernel_rfl) (by kernel_rfl) (fun _ _ _ h => h) (by rfl) ?yc7 (by assumption) ?rc7
        case yc7 => (intro w hSw; obtain ⟨s0, s1, s2⟩ := hSw; go_simp; all_goals with_reducible rfl)
        (try simp only [Act.put, List.setIfInBounds_toArray, List.set_cons_zero, List.set_cons_succ])
        refine take_want (i := 8) (v := ?vc8) rfl (by kernel_rfl) (by kernel_rfl) (by kernel_rfl) (fun _ _ _ h => h) (by rfl) ?yc8 (by assumption) ?rc8
        case yc8 => (intro w hSw; obtain ⟨s0, s1, s2⟩ := hSw; go_simp; all_goals with_reducible rfl)
        (try simp only [Act.put, List.setIfInBounds_toArray, List.set_cons_zero, List.set_cons_succ])
        refine take_want (i := 9) (v := ?vc9) rfl (by kernel_rfl) (by kernel_rfl) (by kernel_rfl) (fun _ _ _ h => h) (by rfl) ?yc9 (by assumption) ?rc9
        case yc9 => (intro w hSw; obtain ⟨s0, s1, s2⟩ := hSw; go_simp; all_goals with_reducible rfl)
        (try simp only [Act.put, List.setIfInBounds_toArray, List.set_cons_zero, List.set_cons_succ])
        refine take_want (i := 10) (v := ?vc10) rfl (by kernel_rfl) (by kernel_rfl) (by kernel_rfl) (fun _ _ _ h => h) (by rfl) ?yc10 (by assumption) ?rc10
        case yc10 => (intro w hSw; obtain ⟨s0, s1, s2⟩ := hSw; go_simp; all_goals with_reducible rfl)
        (try simp only [Act.put, List.setIfInBounds_toArray, List.set_cons_zero, List.set_cons_succ])
        refine take_want (i := 11) (v := ?vc11) rfl (by kernel_rfl) (by kernel_rfl) (by kernel_rfl) (fun _ _ _ h => h) (by rfl) ?yc11 (by assumption) ?rc11
        case yc11 => (intro w hSw; obtain ⟨s0, s1, s2⟩ := hSw; go_simp; all_goals with_reducible rfl)
        (try simp only [Act.put, List.setIfInBounds_toArray, List.set_cons_zero, List.set_cons_succ])
        refine take_want (i := 12) (v := ?vc12) rfl (by kernel_rfl) (by kernel_rfl) (by kernel_rfl) (fun _ _ _ h => h) (by rfl) ?yc12 (by assumption) ?rc12
        case yc12 => (intro w hSw; obtain ⟨s0, s1, s2⟩ := hSw; go_simp; all_goals with_reducible rfl)
        (try simp only [Act.put, List.setIfInBounds_toArray, List.set_cons_zero, List.set_cons_succ])
        refine take_want (i := 13) (v := ?vc13) rfl (by kernel_rfl) (by kernel_rfl) (by kernel_rfl) (fun _ _ _ h => h) (by rfl) ?yc13 (by assumption) ?rc13
        case yc13 => (intro w hSw; obtain ⟨s0, s1, s2⟩ := hSw; go_simp; all_goals with_reducible rfl)
        (try simp only [Act.put, List.setIfInBounds_toArray, List.set_cons_zero, List.set_cons_succ])
        refine take_want (i := 14) (v := ?vc14) rfl (by kernel_rfl) (by kernel_rfl) (by kernel_rfl) (fun _ _ _ h => h) (by rfl) ?yc14 (by assumption) ?rc14
        case yc14 => (intro w hSw; obtain ⟨s0, s1, s2⟩ := hSw; go_simp; all_goals with_reducible rfl)
        (try simp only [Act.put, List.setIfInBounds_toArray, List.set_cons_zero, List.set_cons_succ])
        clear hHeld
        refine wpAnyH_done (by kernel_rfl) ?_ _
        go_wp2_with fail
        go_roundw
        case rel => exact ⟨j + 1, by go_num, by omega, Lib.hid (HBJ.out.trans ((below_drewN (Below.refl _ _) 1).mono HBJ.out.size))⟩
        case measure => simp [intOf]; omega
end Go.Proofs.Ytbccjkjibffbkaa
