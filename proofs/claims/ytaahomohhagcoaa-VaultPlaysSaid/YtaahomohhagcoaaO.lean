/- What an act does to a vault. -/
import Derived.Test.YtaahomohhagcoaaN
namespace Go.Proofs.Ytaahomohhagcoaa
open Go.RowKit Go.Maps Go.Shelf Go.Lib
set_option linter.unusedSimpArgs false
set_option linter.unusedVariables false
/-- Bytes that lie below. -/
structure ArgB (w : World) (B : Nat) (A : Option Addr) (n c : Nat) (bs : List Int) : Prop where
  row : Row w A (u8s bs)
  len : n = bs.length
  cap : n ≤ c
  nil : A = none → c = 0
  byt : bytes bs
  big : n ≤ 9223372036854775807
  low : bs ≠ [] → ∀ b o, A = some ⟨b, o, none⟩ → b < B
theorem ArgB.keep {w w' : World} {B : Nat} {A : Option Addr} {n c : Nat} {bs : List Int} (h : ArgB w B A n c bs) (hb : Below B w w') : ArgB w' B A n c bs :=
  ⟨by
    rcases h.row with e | ⟨b, off, rfl, hc⟩
    · exact .inl e
    · by_cases hbs : bs = []
      · exact .inl (by rw [hbs]; rfl)
      · exact .inr ⟨b, off, rfl, fun j u hu => ((bcell hb).1 _ _ (h.low hbs _ _ rfl)).trans (hc j u hu)⟩, h.len, h.cap, h.nil, h.byt, h.big, h.low⟩
structure Act5 where
  kind : Int
  n : Int
  a : ByteArray
  z : ByteArray
  A : Option Addr
  nb : Nat
  cb : Nat
  bs : List Int
def Act5.val (x : Act5) : Value := .agg #[.int .i64 x.kind, .int .i64 x.n, .string x.a, .string x.z, .slice x.A x.nb x.cb]
structure OkAct (w : World) (B : Nat) (x : Act5) : Prop where
  lo : -9223372036854775808 ≤ x.n
  hi : x.n ≤ 9223372036854775807
  a : x.a.size ≤ 9223372036854775807
  z : x.z.size ≤ 9223372036854775807
  arg : ArgB w B x.A x.nb x.cb x.bs
theorem OkAct.keep {w w' : World} {B : Nat} {x : Act5} (h : OkAct w B x) (hb : Below B w w') : OkAct w' B x := { h with arg := h.arg.keep hb }
def fitB (x : Act5) : Bool := decide (x.a.size ≤ 200) && decide (x.z.size ≤ 200) && decide (x.nb ≤ 200)
set_option maxRecDepth 100000 in
set_option maxHeartbeats 4000000 in
theorem fits_any (k n : Int) (a z : ByteArray) (A : Option Addr) (nb cb : Nat) (q : Bool) (w : World) (hq : q = (decide (a.size ≤ 200) && decide (z.size ≤ 200) && decide (nb ≤ 200))) :
    Calls Try.prog 12 #[.agg #[.int .i64 k, .int .i64 n, .string a, .string z, .slice A nb cb]] w fun e w' => e = .returned (.bool q) ∧ Below w.heap.size w w' := by
  obtain ⟨w1, hw1⟩ : ∃ w1, w1 = w.alloc (.cells #[.int .i64 k, .int .i64 n, .string a, .string z, .slice A nb cb] 33) := ⟨_, rfl⟩
  have HB1 := Lib.hid (show Below w.heap.size w w1 by rw [hw1]; exact bpush (Below.refl _ _) _)
  have HQ := Lib.hid hq
  have HK := Lib.hid (show Blk w1 w.heap.size 33 #[.int .i64 k, .int .i64 n, .string a, .string z, .slice A nb cb] by rw [hw1]; exact Blk.new _ _ _)
  have c2 := HK.out.cell 2
  have c3 := HK.out.cell 3
  have c4 := HK.out.cell 4
  simp at c2 c3 c4
  have HW1 := Lib.hid hw1
  clear hw1 hq
  by_cases h1 : a.size ≤ 200
  · have k1 : (a.size : Int) ≤ 200 := by omega
    by_cases h2 : z.size ≤ 200
    · have k2 : (z.size : Int) ≤ 200 := by omega
      by_cases h3 : nb ≤ 200
      · have k3 : (nb : Int) ≤ 200 := by omega
        have e : q = true := by rw [HQ.out]; simp [h1, h2, h3]
        subst e
        clear h1 h2 h3
        go_enter Try.func12, Try.ntmps12
        go_upto_region 1 with fail
        rw [← HW1.out]
        go_wp2_with fail
        go_ret
        exact ⟨rfl, HB1.out⟩
      · have k3 : ¬ (nb : Int) ≤ 200 := by omega
        have e : q = false := by rw [HQ.out]; simp [h1, h2, h3]
        subst e
        clear h1 h2 h3
        go_enter Try.func12, Try.ntmps12
        go_upto_region 1 with fail
        rw [← HW1.out]
        go_wp2_with fail
        go_ret
        exact ⟨rfl, HB1.out⟩
    · have k2 : ¬ (z.size : Int) ≤ 200 := by omega
      have e : q = false := by rw [HQ.out]; simp [h1, h2]
      subst e
      clear h1 h2
      go_enter Try.func12, Try.ntmps12
      go_upto_region 1 with fail
      rw [← HW1.out]
      go_wp2_with fail
      go_ret
      exact ⟨rfl, HB1.out⟩
  · have k1 : ¬ (a.size : Int) ≤ 200 := by omega
    have e : q = false := by rw [HQ.out]; simp [h1]
    subst e
    clear h1
    go_enter Try.func12, Try.ntmps12
    go_upto_region 1 with fail
    rw [← HW1.out]
    go_wp2_with fail
    go_ret
    exact ⟨rfl, HB1.out⟩
def armS (P : VZ) (n : Int) : VZ × Int := if n < 0 then (P, 1) else (armZ P n.toNat, 0)
theorem armP_any (B a : Nat) (V : VZ) (n : Int) (w : World) (h : VRep w B a V) (h2 : n ≤ 9223372036854775807) : Calls Try.prog 25 #[.pointer (some ⟨a, 0, none⟩), .int .i64 n] w (ActP w B a V (armS (normZ V) n)) := by
  refine (arm_any a V n w h.core h2).mono ?_
  rintro e w' (⟨hn, rfl, rfl⟩ | ⟨k, rfl, rfl, hc, hf⟩)
  · exact ⟨V, by unfold armS; rw [if_pos hn], by unfold armS; rw [if_pos hn], Left.same h (Below.refl _ _)⟩
  · exact ⟨armZ V k, by unfold armS; rw [if_neg (by omega)], by unfold armS; rw [if_neg (by omega)]; rfl, Left.turn h hc hf rfl rfl rfl⟩
noncomputable def doS (P : VZ) (x : Act5) : VZ × Int :=
  if x.kind = 1 then appendS P x.a x.bs else if x.kind = 2 then syncS P x.a else if x.kind = 3 then renameS P x.a x.z else if x.kind = 4 then deleteS P x.a else if x.kind = 5 then armS P x.n else (P, 0)
theorem ActP.pre {w w1 w' : World} {B a : Nat} {V : VZ} {X : VZ × Int} {e : Ending} (hb : Below w.heap.size w w1) (h : ActP w1 B a V X e w') : ActP w B a V X e w' := by
  obtain ⟨V', he, hn, hl⟩ := h
  exact ⟨V', he, hn, hl.rep, (Fr.of_below hb).trans hl.fr, fun i hi => (hl.foot i hi).imp id fun h => Nat.le_trans hb.size h⟩
theorem ActP.below {w w' : World} {B a : Nat} {V V' : VZ} (h : VRep w B a V) (hl : Left w w' B a V V') (hB : B ≤ w.heap.size) : Below B w w' :=
  hl.fr.below hB fun i hi => (h.foot_lt hi).2
set_option maxRecDepth 100000 in
set_option maxHeartbeats 8000000 in
theorem do_any (B a : Nat) (V : VZ) (x : Act5) (w : World) (h : VRep w B a V) (hx : OkAct w B x) (hB : B ≤ w.heap.size) :
    Calls Try.prog 13 #[x.val, .pointer (some ⟨a, 0, none⟩)] w (ActP w B a V (doS (normZ V) x)) := by
  obtain ⟨X, hX⟩ : ∃ X, X = doS (normZ V) x := ⟨_, rfl⟩
  rw [← hX]
  obtain ⟨k, n, s, z, A, nb, cb, bs⟩ := x
  obtain ⟨w1, hw1⟩ : ∃ w1, w1 = w.alloc (.cells #[.int .i64 k, .int .i64 n, .string s, .string z, .slice A nb cb] 33) := ⟨_, rfl⟩
  have hb1 : Below w.heap.size w w1 := by rw [hw1]; exact bpush (Below.refl _ _) _
  have HB1 := Lib.hid hb1
  have HV1 := Lib.hid (h.below hb1)
  have HX1 := Lib.hid (hx.keep (hb1.mono hB))
  have HX := Lib.hid hX
  have HK := Lib.hid (show Blk w1 w.heap.size 33 #[.int .i64 k, .int .i64 n, .string s, .string z, .slice A nb cb] by rw [hw1]; exact Blk.new _ _ _)
  have HFT := Lib.hid (show ∀ b, Foot a V b → B ≤ b from fun b hb => (h.foot_lt hb).2)
  have c0 := HK.out.cell 0
  have c1 := HK.out.cell 1
  have c2 := HK.out.cell 2
  have c3 := HK.out.cell 3
  have c4 := HK.out.cell 4
  simp at c0 c1 c2 c3 c4
  have HW1 := Lib.hid hw1
  clear hw1 hb1 h hx hX hB
  show Calls Try.prog 13 #[.agg #[.int .i64 k, .int .i64 n, .string s, .string z, .slice A nb cb], .pointer (some ⟨a, 0, none⟩)] w _
  by_cases h1 : k = 1
  · subst h1
    have hsp : X = appendS (normZ V) s bs := by rw [HX.out]; simp [doS]
    have HC := Lib.hid (append_any B a V s A nb cb bs w1 HV1.out HX1.out.a HX1.out.arg.row HX1.out.arg.len HX1.out.arg.cap HX1.out.arg.nil HX1.out.arg.byt HX1.out.arg.big (fun hne b o e hf => by have h1 := HX1.out.arg.low hne b o e; have h2 := HFT.out b hf; omega))
    rw [← hsp] at HC
    clear hsp
    go_enter Try.func13, Try.ntmps13
    go_upto_region 1 with fail
    rw [← HW1.out]
    go_wp2_with (go_at_call 22; refine HC.out.mono ?_; rintro e w2 ⟨V2, rfl, hn2, hl2⟩; have HP := Lib.hid (show ActP w1 B a V X (.returned (.int .i64 X.2)) w2 from ⟨V2, rfl, hn2, hl2⟩); clear hn2 hl2)
    go_ret
    exact HP.out.pre HB1.out
  have k1 : (k == 1) = false := by simpa using h1
  by_cases h2 : k = 2
  · subst h2
    have hsp : X = syncS (normZ V) s := by rw [HX.out]; simp [doS]
    have HC := Lib.hid (sync_any B a V s w1 HV1.out HX1.out.a)
    rw [← hsp] at HC
    clear hsp
    go_enter Try.func13, Try.ntmps13
    go_upto_region 1 with fail
    rw [← HW1.out]
    go_wp2_with (go_at_call 23; refine HC.out.mono ?_; rintro e w2 ⟨V2, rfl, hn2, hl2⟩; have HP := Lib.hid (show ActP w1 B a V X (.returned (.int .i64 X.2)) w2 from ⟨V2, rfl, hn2, hl2⟩); clear hn2 hl2)
    go_ret
    exact HP.out.pre HB1.out
  have k2 : (k == 2) = false := by simpa using h2
  by_cases h3 : k = 3
  · subst h3
    have hsp : X = renameS (normZ V) s z := by rw [HX.out]; simp [doS]
    have HC := Lib.hid (rename_any B a V s z w1 HV1.out HX1.out.a HX1.out.z)
    rw [← hsp] at HC
    clear hsp
    go_enter Try.func13, Try.ntmps13
    go_upto_region 1 with fail
    rw [← HW1.out]
    go_wp2_with (go_at_call 24; refine HC.out.mono ?_; rintro e w2 ⟨V2, rfl, hn2, hl2⟩; have HP := Lib.hid (show ActP w1 B a V X (.returned (.int .i64 X.2)) w2 from ⟨V2, rfl, hn2, hl2⟩); clear hn2 hl2)
    go_ret
    exact HP.out.pre HB1.out
  have k3 : (k == 3) = false := by simpa using h3
  by_cases h4 : k = 4
  · subst h4
    have hsp : X = deleteS (normZ V) s := by rw [HX.out]; simp [doS]
    have HC := Lib.hid (delete_any B a V s w1 HV1.out HX1.out.a)
    rw [← hsp] at HC
    clear hsp
    go_enter Try.func13, Try.ntmps13
    go_upto_region 1 with fail
    rw [← HW1.out]
    go_wp2_with (go_at_call 30; refine HC.out.mono ?_; rintro e w2 ⟨V2, rfl, hn2, hl2⟩; have HP := Lib.hid (show ActP w1 B a V X (.returned (.int .i64 X.2)) w2 from ⟨V2, rfl, hn2, hl2⟩); clear hn2 hl2)
    go_ret
    exact HP.out.pre HB1.out
  have k4 : (k == 4) = false := by simpa using h4
  by_cases h5 : k = 5
  · subst h5
    have hsp : X = armS (normZ V) n := by rw [HX.out]; simp [doS]
    have HC := Lib.hid (armP_any B a V n w1 HV1.out HX1.out.hi)
    rw [← hsp] at HC
    clear hsp
    go_enter Try.func13, Try.ntmps13
    go_upto_region 1 with fail
    rw [← HW1.out]
    go_wp2_with (go_at_call 25; refine HC.out.mono ?_; rintro e w2 ⟨V2, rfl, hn2, hl2⟩; have HP := Lib.hid (show ActP w1 B a V X (.returned (.int .i64 X.2)) w2 from ⟨V2, rfl, hn2, hl2⟩); clear hn2 hl2)
    go_ret
    exact HP.out.pre HB1.out
  have k5 : (k == 5) = false := by simpa using h5
  have hsp : X = (normZ V, 0) := by rw [HX.out]; simp [doS, h1, h2, h3, h4, h5]
  have HSP := Lib.hid hsp
  clear hsp h1 h2 h3 h4 h5
  go_enter Try.func13, Try.ntmps13
  go_upto_region 1 with fail
  rw [← HW1.out]
  go_wp2_with fail
  go_ret
  exact ActP.pre HB1.out ⟨V, by rw [HSP.out]; rfl, by rw [HSP.out], Left.same HV1.out (Below.refl _ _)⟩
end Go.Proofs.Ytaahomohhagcoaa
