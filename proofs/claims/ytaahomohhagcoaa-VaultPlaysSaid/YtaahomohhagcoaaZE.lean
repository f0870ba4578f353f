/- The document's Sync, Delete, Rename. -/
import Derived.Test.YtaahomohhagcoaaZD
namespace Go.Proofs.Ytaahomohhagcoaa
open Go.RowKit Go.Maps Go.Shelf Go.Lib
set_option linter.unusedSimpArgs false
set_option linter.unusedVariables false
def RActP (w : World) (a : Nat) (R : RV) (X : VZ × Int) (e : Ending) (w' : World) : Prop :=
  ∃ R', e = .returned (.int .i64 X.2) ∧ RIs R' X.1 ∧ RRep w' a R' ∧ Fr (fun i => i = a) w w' ∧ ∀ i, RRows R' i → RRows R i ∨ w.heap.size ≤ i
theorem RIs.len2 {R : RV} {P : VZ} (h : RIs R P) (hp : PInv P) : R.F.length ≤ 200 := by rw [h.len]; exact hp.len
theorem set_post {w w' : World} {a : Nat} {R : RV} {P : VZ} {f : FZ} {e : Ending} (hi : RIs R P) (ho : oneEach R.F) (h : SetP w a R (R.F.take (upto (namesF R.F) f.name) ++ f :: R.F.drop (upto (namesF R.F) f.name + if (lookF R.F f.name).isSome then 1 else 0)) e w') :
    e = .returned (.tuple #[]) ∧ ∃ R', RIs R' (putZ P (normF f)) ∧ RRep w' a R' ∧ Fr (fun i => i = a) w w' ∧ ∀ i, RRows R' i → RRows R i ∨ w.heap.size ≤ i ∨ (f.bs ≠ [] ∧ ∃ o, f.A = some ⟨i, o, none⟩) := by
  rw [← put_split ho f] at h
  obtain ⟨he, A, n, c, hr, hf, hA⟩ := h
  refine ⟨he, { R with A := A, n := n, c := c, F := putF R.F f }, ⟨hi.room, hi.fuse, ?_⟩, hr, hf, fun i hx => ?_⟩
  · show (putF R.F f).map normF = putF P.F (normF f)
    rw [norm_put, hi.F]
  · rcases SetP.rows (w' := w') (a := a) hA hx with h1 | ⟨g, hg, h2⟩
    · exact .inr (.inl h1)
    · rcases mem_put.1 hg with rfl | ⟨hg, _⟩
      · exact .inr (.inr h2)
      · exact .inl (.inr ⟨g, hg, h2⟩)
theorem drop_post {w w' : World} {a : Nat} {R : RV} {P : VZ} {s : ByteArray} {e : Ending} (hi : RIs R P) (ho : oneEach R.F) (hs : (lookF R.F s).isSome = true) (h : SetP w a R (R.F.take (upto (namesF R.F) s) ++ R.F.drop (upto (namesF R.F) s + 1)) e w') :
    e = .returned (.tuple #[]) ∧ ∃ R', RIs R' (dropZ P s) ∧ RRep w' a R' ∧ R'.F = dropF R.F s ∧ Fr (fun i => i = a) w w' ∧ ∀ i, RRows R' i → RRows R i ∨ w.heap.size ≤ i := by
  rw [← drop_split ho hs] at h
  obtain ⟨he, A, n, c, hr, hf, hA⟩ := h
  refine ⟨he, { R with A := A, n := n, c := c, F := dropF R.F s }, ⟨hi.room, hi.fuse, ?_⟩, hr, rfl, hf, fun i hx => ?_⟩
  · show (dropF R.F s).map normF = dropF P.F s
    rw [norm_drop, hi.F]
  · rcases SetP.rows (w' := w') (a := a) hA hx with h1 | ⟨g, hg, h2⟩
    · exact .inr h1
    · exact .inl (.inr ⟨g, (mem_drop.1 hg).1, h2⟩)
theorem RRep.drews {w : World} {a m : Nat} {R : RV} (h : RRep w a R) : RRep (w.drewN m) a R := h.below (below_drewN (Below.refl _ _) m)
/-- What find tells, by the state. -/
theorem find_is {w : World} {a : Nat} {R : RV} {P : VZ} (h : RRep w a R) (hi : RIs R P) (hp : PInv P) (s : ByteArray) : Calls Try.prog 41 #[.pointer (some ⟨a, 0, none⟩), .string s] w fun e w' => (e = .returned (.tuple #[.int .i64 (upto (namesF R.F) s : Nat), .bool (lookF R.F s).isSome]) ∧ ∃ m, w' = w.drewN m) :=
  find_any a R s w h (hi.one hp) (by have := hi.len2 hp; omega)
theorem rrows_fuse {R : RV} {x : Int} {i : Nat} (h : RRows { R with fuse := x } i) : RRows R i := h
theorem act_F2 (P : VZ) : (actZ P).F = P.F := act_F P
set_option maxRecDepth 100000 in
set_option maxHeartbeats 8000000 in
theorem rdelete_any (a : Nat) (R : RV) (P : VZ) (s : ByteArray) (w : World) (h : RRep w a R) (hi : RIs R P) (hp : PInv P) : Calls Try.prog 34 #[.pointer (some ⟨a, 0, none⟩), .string s] w (RActP w a R (deleteS P s)) := by
  have HH := Lib.hid h
  have HI := Lib.hid hi
  have HP := Lib.hid hp
  have hfd := find_is h hi hp s
  have HO := Lib.hid (hi.one hp)
  have hlk := hi.look s
  cases hl : lookF R.F s with
  | none =>
    rw [hl] at hfd hlk
    have HFD := Lib.hid hfd
    have HS := Lib.hid (show deleteS P s = (P, 31) by unfold deleteS; rw [hlk]; rfl)
    clear h hi hp hfd hlk hl
    go_enter Try.func34, Try.ntmps34
    go_wp2_with (go_at_call 41; refine HFD.out.mono ?_; rintro e w2 ⟨rfl, m2, hm2⟩; have HM2 := Lib.hid hm2; clear hm2)
    go_ret
    refine ⟨R, by rw [HS.out]; rfl, by rw [HS.out]; exact HI.out, by rw [HM2.out]; exact HH.out.drews, by rw [HM2.out]; exact (Fr.refl _ _).drew _, fun i hx => .inl hx⟩
  | some f =>
    obtain ⟨u, hu⟩ : ∃ u, u = upto (namesF R.F) s := ⟨_, rfl⟩
    have hsome : (lookF R.F s).isSome = true := by rw [hl]; rfl
    rw [hsome, ← hu] at hfd
    rw [hl] at hlk
    have HFD := Lib.hid hfd
    have HSM := Lib.hid hsome
    have HU := Lib.hid hu
    have HUL := Lib.hid (show u < R.F.length by rw [hu]; exact (look_at (hi.one hp) hl).1)
    have HS := Lib.hid (show deleteS P s = if brkZ (actZ P) then (actZ P, 272) else (dropZ (actZ P) s, 0) by unfold deleteS; rw [hlk]; rfl)
    have HBU := Lib.hid (fun m => burnt_any a R P (w.drewN m) h.drews hi hp.fuse)
    clear h hi hp hfd hlk hl hsome hu
    go_enter Try.func34, Try.ntmps34
    go_upto_region 4 with (go_at_call 41; refine HFD.out.mono ?_; rintro e w2 ⟨rfl, m2, hm2⟩; have HM2 := Lib.hid hm2; clear hm2)
    have hbu := HBU.out m2
    rw [← HM2.out] at hbu
    obtain ⟨q, hq⟩ : ∃ q, q = brkZ (actZ P) := ⟨_, rfl⟩
    have HB2 := Lib.hid hbu
    have HQ := Lib.hid hq
    clear hbu hq
    go_upto_region 5 with (go_at_call 49; refine HB2.out.mono ?_; rintro e w3 ⟨he, hi3, hr3, hf3⟩; obtain rfl : e = .returned (.bool q) := (he.trans (by rw [HQ.out])); have HI3 := Lib.hid hi3; have HR3 := Lib.hid hr3; have HF3 := Lib.hid (show Fr (fun i => i = a) w w3 from by (rw [HM2.out] at hf3; exact hf3.undrew)); clear he hi3 hr3 hf3)
    cases q with
    | true =>
      go_wp2_with fail
      go_ret
      exact ⟨_, by rw [HS.out, if_pos HQ.out.symm]; rfl, by rw [HS.out, if_pos HQ.out.symm]; exact HI3.out, HR3.out, HF3.out, fun i hx => .inl hx⟩
    | false =>
      have HDR := Lib.hid (rdrop_any a u { R with fuse := fuseI (actZ P) } w3 HR3.out HUL.out (by have := HI.out.len2 HP.out; show R.F.length ≤ _; omega))
      go_wp2_with (go_at_call 51; refine HDR.out.mono ?_; rintro e w4 hq; rw [HU.out] at hq; obtain ⟨rfl, R4, hi4, hr4, _, hf4, hx4⟩ := drop_post (R := { R with fuse := fuseI (actZ P) }) HI3.out HO.out HSM.out hq; have HI4 := Lib.hid hi4; have HR4 := Lib.hid hr4; have HF4 := Lib.hid hf4; have HX4 := Lib.hid hx4; clear hq hi4 hr4 hf4 hx4)
      go_ret
      have hk : ¬ (brkZ (actZ P) = true) := by rw [← HQ.out]; simp
      exact ⟨R4, by rw [HS.out, if_neg hk]; rfl, by rw [HS.out, if_neg hk]; exact HI4.out, HR4.out, HF3.out.trans HF4.out, fun i hx => (HX4.out i hx).imp id fun h => Nat.le_trans HF3.out.size h⟩
set_option maxRecDepth 100000 in
set_option maxHeartbeats 8000000 in
theorem rsync_any (a : Nat) (R : RV) (P : VZ) (s : ByteArray) (w : World) (h : RRep w a R) (hi : RIs R P) (hp : PInv P) : Calls Try.prog 32 #[.pointer (some ⟨a, 0, none⟩), .string s] w (RActP w a R (syncS P s)) := by
  have HH := Lib.hid h
  have HI := Lib.hid hi
  have HP := Lib.hid hp
  have hfd := find_is h hi hp s
  have HO := Lib.hid (hi.one hp)
  have hlk := hi.look s
  cases hl : lookF R.F s with
  | none =>
    rw [hl] at hfd hlk
    have HFD := Lib.hid hfd
    have HS := Lib.hid (show syncS P s = (P, 31) by unfold syncS; rw [hlk]; rfl)
    clear h hi hp hfd hlk hl
    go_enter Try.func32, Try.ntmps32
    go_wp2_with (go_at_call 41; refine HFD.out.mono ?_; rintro e w2 ⟨rfl, m2, hm2⟩; have HM2 := Lib.hid hm2; clear hm2)
    go_ret
    refine ⟨R, by rw [HS.out]; rfl, by rw [HS.out]; exact HI.out, by rw [HM2.out]; exact HH.out.drews, by rw [HM2.out]; exact (Fr.refl _ _).drew _, fun i hx => .inl hx⟩
  | some f =>
    obtain ⟨u, hu⟩ : ∃ u, u = upto (namesF R.F) s := ⟨_, rfl⟩
    have hsome : (lookF R.F s).isSome = true := by rw [hl]; rfl
    rw [hsome, ← hu] at hfd
    rw [hl] at hlk
    have HFD := Lib.hid hfd
    have hla := look_at (hi.one hp) hl
    rw [← hu] at hla
    obtain ⟨hul, hfu⟩ := hla
    have HUL := Lib.hid hul
    have HFU := Lib.hid (show ∀ h : u < R.F.length, R.F[u]'h = f from fun _ => hfu)
    have hnm := (look_name hl).1
    have hfm := (look_name hl).2
    have HFM := Lib.hid hfm
    have HS := Lib.hid (show syncS P s = if brkZ (actZ P) then (actZ P, 272) else (putZ (actZ P) { normF f with safe := f.n }, 0) by unfold syncS; rw [hlk]; rfl)
    have HBU := Lib.hid (fun m => burnt_any a R P (w.drewN m) h.drews hi hp.fuse)
    clear h hi hp hfd hlk hl hsome hu hul hfu hfm
    subst hnm
    go_enter Try.func32, Try.ntmps32
    go_upto_region 4 with (go_at_call 41; refine HFD.out.mono ?_; rintro e w2 ⟨rfl, m2, hm2⟩; have HM2 := Lib.hid hm2; clear hm2)
    have hbu := HBU.out m2
    rw [← HM2.out] at hbu
    obtain ⟨q, hq⟩ : ∃ q, q = brkZ (actZ P) := ⟨_, rfl⟩
    have HB2 := Lib.hid hbu
    have HQ := Lib.hid hq
    clear hbu hq
    go_upto_region 5 with (go_at_call 49; refine HB2.out.mono ?_; rintro e w3 ⟨he, hi3, hr3, hf3⟩; obtain rfl : e = .returned (.bool q) := (he.trans (by rw [HQ.out])); have HI3 := Lib.hid hi3; have HR3 := Lib.hid hr3; have HF3 := Lib.hid (show Fr (fun i => i = a) w w3 from by (rw [HM2.out] at hf3; exact hf3.undrew)); clear he hi3 hr3 hf3)
    cases q with
    | true =>
      go_wp2_with fail
      go_ret
      exact ⟨_, by rw [HS.out, if_pos HQ.out.symm]; rfl, by rw [HS.out, if_pos HQ.out.symm]; exact HI3.out, HR3.out, HF3.out, fun i hx => .inl hx⟩
    | false =>
      have c2 := HR3.out.blk.cell 2
      simp at c2
      obtain ⟨A, hA⟩ : ∃ A, A = R.A := ⟨_, rfl⟩
      obtain ⟨n, hn⟩ : ∃ n, n = R.n := ⟨_, rfl⟩
      have hun : u < n := by rw [hn, HR3.out.len]; exact HUL.out
      have hnc : n ≤ R.c := by rw [hn]; exact HR3.out.cap
      have hn9 : n ≤ 200 := by rw [hn, HR3.out.len]; exact HI.out.len2 HP.out
      obtain ⟨b, off, hAe, d0, d1, d2⟩ := file_cells HR3.out.row HUL.out
      rw [← hn, show R.A = _ from hAe] at c2
      have hfu := HFU.out HUL.out
      simp only [hfu] at d0 d1 d2
      have hu0 : (0 : Int) ≤ (u : Int) := by omega
      have hun1 : (u : Int) < (n : Int) := by omega
      obtain ⟨w4, hw4⟩ : ∃ w4, w4 = w3.alloc (.cells #[.string f.name, .slice f.A f.n f.c, .int .i64 f.safe] 66) := ⟨_, rfl⟩
      have hb4 : Below w3.heap.size w3 w4 := by rw [hw4]; exact bpush (Below.refl _ _) _
      obtain ⟨g, hg⟩ : ∃ g, g = w3.heap.size := ⟨_, rfl⟩
      have HK4 := Lib.hid (show Blk w4 g 66 #[.string f.name, .slice f.A f.n f.c, .int .i64 f.safe] by rw [hw4, hg]; exact Blk.new _ _ _)
      obtain ⟨w5, hw5⟩ : ∃ w5, w5 = w4.setCell ⟨g, 2, none⟩ (.int .i64 f.n) := ⟨_, rfl⟩
      have HK5 := Lib.hid (show Blk w5 g 66 #[.string f.name, .slice f.A f.n f.c, .int .i64 f.n] by rw [hw5]; exact HK4.out.set_ 2 _)
      have HB5 := Lib.hid (show Below w3.heap.size w3 w5 by rw [hw5]; exact bset hb4 (by omega) _)
      have HW4 := Lib.hid hw4
      have HW5 := Lib.hid hw5
      have HG := Lib.hid hg
      have hr5 := HR3.out.below HB5.out
      have HR5 := Lib.hid hr5
      have HST := Lib.hid (rset_any a { R with fuse := fuseI (actZ P) } { f with safe := f.n } w5 hr5 HO.out (by have := HI.out.len2 HP.out; show R.F.length ≤ 1000; omega) { hr5.files f HFM.out with } (fun b o h1 h2 => hr5.file_far HFM.out b o h1 h2))
      clear hA hn hAe hw4 hb4 hg hw5 hfu hr5
      go_upto_region 8 with fail
      rw [← HW4.out]
      rw [← HG.out]
      clear c2 d0 d1 d2
      have b1 : w4.cell? ⟨g, 1, none⟩ = some (.slice f.A f.n f.c) := by simpa using HK4.out.cell 1
      have b2 : w4.cell? ⟨g, 2, none⟩ = some (.int .i64 f.safe) := by simpa using HK4.out.cell 2
      have b3 := HK4.out.frozen 2
      go_upto_region 9 with fail
      rw [← HW5.out]
      clear b1 b2 b3
      have b0 : w5.cell? ⟨g, 0, none⟩ = some (.string f.name) := by simpa using HK5.out.cell 0
      have b1 : w5.cell? ⟨g, 1, none⟩ = some (.slice f.A f.n f.c) := by simpa using HK5.out.cell 1
      have b2 : w5.cell? ⟨g, 2, none⟩ = some (.int .i64 f.n) := by simpa using HK5.out.cell 2
      go_wp2_with (go_at_call 50; refine HST.out.mono ?_; rintro e w6 hq; obtain ⟨rfl, R6, hi6, hr6, hf6, hx6⟩ := set_post (R := { R with fuse := fuseI (actZ P) }) HI3.out HO.out hq; have HI6 := Lib.hid hi6; have HR6 := Lib.hid hr6; have HF6 := Lib.hid hf6; have HX6 := Lib.hid hx6; clear hq hi6 hr6 hf6 hx6)
      go_ret
      have hk : ¬ (brkZ (actZ P) = true) := by rw [← HQ.out]; simp
      refine ⟨R6, by rw [HS.out, if_neg hk]; rfl, by rw [HS.out, if_neg hk]; exact HI6.out, HR6.out, (HF3.out.trans (Fr.of_below HB5.out)).trans HF6.out, fun i hx => ?_⟩
      rcases HX6.out i hx with h | h | ⟨h1, h2⟩
      · exact .inl h
      · exact .inr (Nat.le_trans HF3.out.size (Nat.le_trans HB5.out.size h))
      · exact .inl (.inr ⟨f, HFM.out, h1, h2⟩)
end Go.Proofs.Ytaahomohhagcoaa
