/- The closures that write one boolean: 38, 40, 42, 43. -/
import Derived.Test.YtjfkgiflakfjfaaFO
import Derived.Test.YtjfkgiflakfjfaaVH
namespace Go.Proofs.Ytjfkgiflakfjfaa
open Go.RowKit Go.Maps Go.Lib Go.Shelf
set_option linter.unusedSimpArgs false
set_option linter.unusedVariables false
/-- What stays but in some blocks. -/
structure Fr (S : Nat → Prop) (w w' : World) : Prop where
  os : w'.os = w.os
  tape : w'.tape = w.tape
  output : w'.output = w.output
  size : w.heap.size ≤ w'.heap.size
  block : ∀ i, i < w.heap.size → ¬ S i → w'.heap[i]? = w.heap[i]?
theorem Fr.refl (S : Nat → Prop) (w : World) : Fr S w w := ⟨rfl, rfl, rfl, Nat.le_refl _, fun _ _ _ => rfl⟩
theorem Fr.trans {S : Nat → Prop} {w w1 w2 : World} (h : Fr S w w1) (k : Fr S w1 w2) : Fr S w w2 :=
  ⟨k.os.trans h.os, k.tape.trans h.tape, k.output.trans h.output, Nat.le_trans h.size k.size, fun i hi hs => (k.block i (Nat.lt_of_lt_of_le hi h.size) hs).trans (h.block i hi hs)⟩
theorem Fr.of_below {w w' : World} {S : Nat → Prop} (h : Below w.heap.size w w') : Fr S w w' := ⟨h.os, h.tape, h.output, h.size, fun i hi _ => h.block i hi⟩
theorem Fr.below {w w' : World} {S : Nat → Prop} {B : Nat} (h : Fr S w w') (hb : B ≤ w.heap.size) (hs : ∀ i, S i → B ≤ i) : Below B w w' := ⟨h.os, h.tape, h.output, h.size, fun i hi => h.block i (by omega) fun k => by have := hs i k; omega⟩
theorem Fr.set_ {w w' : World} {S : Nat → Prop} (h : Fr S w w') {a o : Nat} (hs : S a ∨ w.heap.size ≤ a) (v : Value) : Fr S w (w'.setCell ⟨a, o, none⟩ v) :=
  ⟨h.os, h.tape, h.output, by simpa [World.setCell] using h.size, fun i hi k => by
    rw [← h.block i hi k]
    refine Below.heap_setCell w' ⟨a, o, none⟩ v i ?_
    intro e; simp at e; subst e
    rcases hs with hs | hs
    · exact k hs
    · omega⟩
theorem Fr.blk {w w' : World} {S : Nat → Prop} (h : Fr S w w') {g : Nat} {t : TypeId} {cs : Array Value} (hb : Blk w g t cs) (hs : ¬ S g) : Blk w' g t cs := (h.block g hb.lt hs).trans hb
theorem Blk.set_ {w : World} {g : Nat} {t : TypeId} {cs : Array Value} (h : Blk w g t cs) (i : Nat) (u : Value) : Blk (w.setCell ⟨g, i, none⟩ u) g t (cs.setIfInBounds i u) := by
  unfold Blk at h ⊢
  simp [World.setCell, Array.getElem?_modify, h]
theorem Blk.below {w w' : World} {g : Nat} {t : TypeId} {cs : Array Value} (h : Blk w g t cs) (hb : Below w.heap.size w w') : Blk w' g t cs := (hb.block g h.lt).trans h
theorem Blk.ne_ {w : World} {g g' : Nat} {t t' : TypeId} {cs cs' : Array Value} (h : Blk w g t cs) (h' : Blk w g' t' cs') (hne : t ≠ t') : g ≠ g' := by
  rintro rfl
  unfold Blk at h h'
  rw [h] at h'
  injection h' with h'
  injection h' with _ ht
  exact hne ht
def UpdPost (P : Nat) (r : Bool) (w : World) (e : Ending) (w' : World) : Prop := e = .returned (.tuple #[]) ∧ Blk w' P 4 #[.bool r] ∧ Fr (fun i => i = P) w w'
theorem upd_set {P : Nat} {b r : Bool} {w w' : World} (h : Blk w' P 4 #[.bool b]) (k : Fr (fun i => i = P) w w') : Blk (w'.setCell ⟨P, 0, none⟩ (.bool r)) P 4 #[.bool r] ∧ Fr (fun i => i = P) w (w'.setCell ⟨P, 0, none⟩ (.bool r)) :=
  ⟨h.set_ 0 (.bool r), k.set_ (.inl rfl) _⟩
set_option maxRecDepth 100000 in
set_option maxHeartbeats 4000000 in
theorem dim38 (A B : Option Addr) (n c m d S P : Nat) (L : List ByteArray) (s : ByteArray) (b : Bool) (w : World) (hS : Blk w S 24 #[.slice A n c, .slice B m d]) (hA : Row w A (texts L)) (hz : n = L.length) (hn : n ≤ 9223372036854775807) (hP : Blk w P 4 #[.bool b]) :
    Calls Try.prog 38 #[.string s, .pointer (some ⟨S, 0, none⟩), .pointer (some ⟨P, 0, none⟩)] w (UpdPost P (b && inT L s) w) := by
  have HC := Lib.hid (dim_any A B n c m d L s w hA hz hn)
  have HP := Lib.hid hP
  have s0 : w.cell? ⟨S, 0, none⟩ = some (.slice A n c) := by rw [hS.cell 0]; rfl
  have s1 : w.cell? ⟨S, 1, none⟩ = some (.slice B m d) := by rw [hS.cell 1]; rfl
  clear hS hA hz hP
  go_enter Try.func38, Try.ntmps38
  go_upto_region 1 with (go_at_call 39; refine HC.out.mono ?_; rintro e w2 ⟨⟨o, ho, rfl⟩, hb⟩; have HO := Lib.hid ho; have HB2 := Lib.hid hb; have p2 := HP.out.below hb; have HP2 := Lib.hid p2; have q0 : w2.cell? ⟨P, 0, none⟩ = some (.bool b) := (by rw [p2.cell 0]; rfl); have f0 := p2.frozen 0; clear ho hb p2)
  obtain ⟨r, hr⟩ : ∃ r, r = o.isSome := ⟨_, rfl⟩
  have HR := Lib.hid (show r = inT L s by rw [hr]; exact first_mem HO.out)
  rw [← hr]
  clear hr
  rw [← HR.out]
  cases b with
  | true =>
    go_wp2_with fail
    go_end0
    exact ⟨rfl, upd_set HP2.out (Fr.of_below HB2.out)⟩
  | false =>
    go_wp2_with fail
    go_end0
    exact ⟨rfl, upd_set HP2.out (Fr.of_below HB2.out)⟩
set_option maxRecDepth 100000 in
set_option maxHeartbeats 4000000 in
theorem take42 (A B : Option Addr) (n c m d S P D : Nat) (L : List ByteArray) (x : FT) (b : Bool) (w : World) (hS : Blk w S 24 #[.slice A n c, .slice B m d]) (hA : Row w A (texts L)) (hz : n = L.length) (hn : n ≤ 9223372036854775807) (hP : Blk w P 4 #[.bool b]) (hD : Blk w D 67 #[.func (.func 38) #[] #[.pointer (some ⟨S, 0, none⟩), .pointer (some ⟨P, 0, none⟩)]]) :
    Calls Try.prog 42 #[.agg #[.int .i64 x.op, .string x.dim, .string x.val, .slice x.A x.n x.c], .pointer (some ⟨D, 0, none⟩)] w (UpdPost P (b && inT L x.dim) w) := by
  obtain ⟨w1, hw1⟩ : ∃ w1, w1 = w.alloc (.cells #[.int .i64 x.op, .string x.dim, .string x.val, .slice x.A x.n x.c] 29) := ⟨_, rfl⟩
  have hb1 : Below w.heap.size w w1 := by rw [hw1]; exact bpush (Below.refl _ _) _
  have hK : Blk w1 w.heap.size 29 #[.int .i64 x.op, .string x.dim, .string x.val, .slice x.A x.n x.c] := by rw [hw1]; exact Blk.new _ _ _
  have HC := Lib.hid (dim38 A B n c m d S P L x.dim b w1 (hS.below hb1) (hA.keep (Nat.le_refl _) hb1) hz hn (hP.below hb1))
  have c1 : w1.cell? ⟨w.heap.size, 1, none⟩ = some (.string x.dim) := by rw [hK.cell 1]; rfl
  have cD : w1.cell? ⟨D, 0, none⟩ = some (.func (.func 38) #[] #[.pointer (some ⟨S, 0, none⟩), .pointer (some ⟨P, 0, none⟩)]) := by rw [(hD.below hb1).cell 0]; rfl
  have HB1 := Lib.hid hb1
  have HW1 := Lib.hid hw1
  clear hw1 hb1 hK hS hA hz hP hD
  go_enter Try.func42, Try.ntmps42
  go_upto_region 1 with fail
  rw [← HW1.out]
  go_wp2_with (go_at_call 38; refine HC.out.mono ?_; rintro e w2 ⟨rfl, hp, hf⟩; have HP2 := Lib.hid hp; have HF2 := Lib.hid hf; clear hp hf)
  go_end0
  exact ⟨rfl, HP2.out, (Fr.of_below HB1.out).trans HF2.out⟩
set_option maxRecDepth 100000 in
set_option maxHeartbeats 8000000 in
theorem term40 (A B : Option Addr) (n c m d S P : Nat) (M : List ByteArray) (t : Int × ByteArray) (b : Bool) (w : World) (hS : Blk w S 24 #[.slice A n c, .slice B m d]) (hB : Row w B (texts M)) (hz : m = M.length) (hn : m ≤ 9223372036854775807) (hP : Blk w P 4 #[.bool b]) :
    Calls Try.prog 40 #[.agg #[.int .i64 t.1, .string t.2], .pointer (some ⟨S, 0, none⟩), .pointer (some ⟨P, 0, none⟩)] w (UpdPost P (b && (decide (t.1 = 0) || inT M t.2)) w) := by
  obtain ⟨fn, s⟩ := t
  simp only
  obtain ⟨w1, hw1⟩ : ∃ w1, w1 = w.alloc (.cells #[.int .i64 fn, .string s] 47) := ⟨_, rfl⟩
  have hb1 : Below w.heap.size w w1 := by rw [hw1]; exact bpush (Below.refl _ _) _
  have hK : Blk w1 w.heap.size 47 #[.int .i64 fn, .string s] := by rw [hw1]; exact Blk.new _ _ _
  have HC := Lib.hid (metr_any B A m d n c M s w1 (hB.keep (Nat.le_refl _) hb1) hz hn)
  have HP := Lib.hid (hP.below hb1)
  have hS1 := hS.below hb1
  have s0 : w1.cell? ⟨S, 0, none⟩ = some (.slice A n c) := by rw [hS1.cell 0]; rfl
  have s1 : w1.cell? ⟨S, 1, none⟩ = some (.slice B m d) := by rw [hS1.cell 1]; rfl
  have c1 : w1.cell? ⟨w.heap.size, 1, none⟩ = some (.string s) := by rw [hK.cell 1]; rfl
  have HK := Lib.hid hK
  have HB1 := Lib.hid hb1
  have HW1 := Lib.hid hw1
  clear hw1 hb1 hK hS hB hz hP hS1
  go_enter Try.func40, Try.ntmps40
  go_upto_region 1 with fail
  rw [← HW1.out]
  go_upto_region 2 with (go_at_call 41; refine HC.out.mono ?_; rintro e w2 ⟨⟨o, ho, rfl⟩, hb⟩; have HO := Lib.hid ho; have HB2 := Lib.hid (bthen HB1.out hb); have p2 := HP.out.below hb; have HP2 := Lib.hid p2; have q0 : w2.cell? ⟨P, 0, none⟩ = some (.bool b) := (by rw [p2.cell 0]; rfl); have f0 := p2.frozen 0; have c0 : w2.cell? ⟨w.heap.size, 0, none⟩ = some (.int .i64 fn) := (by rw [(HK.out.below hb).cell 0]; rfl); clear ho hb p2)
  obtain ⟨r, hr⟩ : ∃ r, r = o.isSome := ⟨_, rfl⟩
  have HR := Lib.hid (show r = inT M s by rw [hr]; exact first_mem HO.out)
  rw [← hr]
  clear hr
  rw [← HR.out]
  have hfin : ∀ x : Bool, x = (b && (decide (fn = 0) || r)) → UpdPost P (b && (decide (fn = 0) || r)) w (.returned (.tuple #[])) (w2.setCell ⟨P, 0, none⟩ (.bool x)) := fun x hx => by
    rw [← hx]; exact ⟨rfl, upd_set HP2.out (Fr.of_below HB2.out)⟩
  have HFIN := Lib.hid hfin
  clear hfin
  by_cases h0 : fn = 0
  · subst h0
    cases b <;> cases r <;> (go_wp2_with fail; go_end0; exact HFIN.out _ (by simp))
  · have h0b : (fn == 0) = false := by simp [h0]
    cases b <;> cases r <;> (go_wp2_with fail; go_end0; exact HFIN.out _ (by simp [h0]))
set_option maxRecDepth 100000 in
set_option maxHeartbeats 8000000 in
theorem take43 (P : Nat) (x : FT) (b : Bool) (w : World) (hx : x.val.size ≤ 9223372036854775807) (hP : Blk w P 4 #[.bool b]) :
    Calls Try.prog 43 #[.agg #[.int .i64 x.op, .string x.dim, .string x.val, .slice x.A x.n x.c], .pointer (some ⟨P, 0, none⟩)] w (UpdPost P (b && valB x.val) w) := by
  obtain ⟨w1, hw1⟩ : ∃ w1, w1 = w.alloc (.cells #[.int .i64 x.op, .string x.dim, .string x.val, .slice x.A x.n x.c] 29) := ⟨_, rfl⟩
  have hb1 : Below w.heap.size w w1 := by rw [hw1]; exact bpush (Below.refl _ _) _
  have hK : Blk w1 w.heap.size 29 #[.int .i64 x.op, .string x.dim, .string x.val, .slice x.A x.n x.c] := by rw [hw1]; exact Blk.new _ _ _
  have hp1 := hP.below hb1
  obtain ⟨r, hr⟩ : ∃ r, r = valB x.val := ⟨_, rfl⟩
  have HC := Lib.hid (value_any x.val w1 hx r (by rw [hr]; exact valB_iff _))
  have c2 : w1.cell? ⟨w.heap.size, 2, none⟩ = some (.string x.val) := by rw [hK.cell 2]; rfl
  have q0 : w1.cell? ⟨P, 0, none⟩ = some (.bool b) := by rw [hp1.cell 0]; rfl
  have f0 := hp1.frozen 0
  have HP1 := Lib.hid hp1
  have HB1 := Lib.hid hb1
  have HW1 := Lib.hid hw1
  rw [← hr]
  clear hw1 hb1 hK hP hp1 hr
  go_enter Try.func43, Try.ntmps43
  go_upto_region 1 with fail
  rw [← HW1.out]
  cases b with
  | true =>
    go_wp2_with (go_at_call 44; refine HC.out.mono ?_; rintro e w2 ⟨rfl, hb⟩; have HB2 := Lib.hid (bthen HB1.out hb); have p2 := HP1.out.below hb; have HP2 := Lib.hid p2; have q1 : w2.cell? ⟨P, 0, none⟩ = some (.bool true) := (by rw [p2.cell 0]; rfl); have f1 := p2.frozen 0; clear hb p2)
    go_end0
    exact ⟨rfl, upd_set HP2.out (Fr.of_below HB2.out)⟩
  | false =>
    go_wp2_with fail
    go_end0
    exact ⟨rfl, upd_set HP1.out (Fr.of_below HB1.out)⟩
end Go.Proofs.Ytjfkgiflakfjfaa
