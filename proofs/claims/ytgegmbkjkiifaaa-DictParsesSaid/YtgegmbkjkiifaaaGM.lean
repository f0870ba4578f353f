import Derived.Test.YtgegmbkjkiifaaaGL
namespace Go.Proofs.Ytgegmbkjkiifaaa
open Go.RowKit
set_option linter.unusedSimpArgs false
section
variable {P : Program} {l : List Oper} {Q : Exit → Act → World → Prop} {md : Region.Mode} {S : World → Prop}
/-- An operation of a drawn region that is carried out, and looks at no memory but what S tells: it is taken next. -/
theorem take_want {i : Nat} {oi : Oper} {v : Value} {fuel : Nat} {listed : Array Bool} {a : Act} {w : World} (hi : l[i]? = some oi)
    (hs : Region.noSelect l.toArray = true) (hf : Region.free md l.toArray listed i = true) (hr : (Region.ready md l.toArray listed).contains i = true)
    (hQ : ∀ c a w, Q (.panic c) (a.put oi.dst v) w → Q (.panic c) a w) (hw : Region.wanted oi (yielded l.toArray a.tmps) = true) (hy : ∀ w, S w → (execOp a.eval oi).run P w = .ok (.value v) w) (hS : S w)
    (h : wpAnyH P md l.toArray Q S fuel (listed.setIfInBounds i true) (a.put oi.dst v) w) : wpAnyH P md l.toArray Q S (fuel + 1) listed a w :=
  wpAnyH_take (by simpa using hi) hs hf hr hQ (Or.inl ⟨hw, hy⟩) hS h
/-- One whose guard says no. -/
theorem take_skip {i : Nat} {oi : Oper} {fuel : Nat} {listed : Array Bool} {a : Act} {w : World} (hi : l[i]? = some oi)
    (hs : Region.noSelect l.toArray = true) (hf : Region.free md l.toArray listed i = true) (hr : (Region.ready md l.toArray listed).contains i = true)
    (hQ : ∀ c a w, Q (.panic c) (a.put oi.dst undef) w → Q (.panic c) a w) (hw : Region.wanted oi (yielded l.toArray a.tmps) = false) (hS : S w)
    (h : wpAnyH P md l.toArray Q S fuel (listed.setIfInBounds i true) (a.put oi.dst undef) w) : wpAnyH P md l.toArray Q S (fuel + 1) listed a w :=
  wpAnyH_take (by simpa using hi) hs hf hr hQ (Or.inr ⟨hw, rfl⟩) hS h
end
theorem str_size (xs : List Int) : (strOfNums xs).size = xs.length := strOfNums_size xs
theorem toList_data (s : ByteArray) : s.toList = s.data.toList := ByteArray.toList_eq s
theorem slice_to (s : ByteArray) (p : Nat) (h : p ≤ s.size) (W : World) : Sem.run Try.prog (Instr.slice 9 (.string s) none (some (.int .i64 (p : Int))) none) W = .ok (.string (s.extract 0 p)) W := by
  have := run_slice_string_h (P := Try.prog) (w := W) (t := 9) (s := s) Try.underlying9 .i64 (p : Int) (by omega) (by omega)
  simpa using this
theorem map_inj8 : ∀ {x y : List Int}, bytes x → bytes y → (x.map fun n => UInt8.ofNat n.toNat) = (y.map fun n => UInt8.ofNat n.toNat) → x = y := by
  intro x
  induction x with
  | nil => intro y _ _ h; cases y with | nil => rfl | cons b y => simp at h
  | cons a x ih =>
    intro y hx hy h
    cases y with
    | nil => simp at h
    | cons b y =>
      have ha := hx a (by simp)
      have hb := hy b (by simp)
      rw [List.map_cons, List.map_cons, List.cons.injEq] at h
      have h1 := congrArg UInt8.toNat h.1
      rw [UInt8.toNat_ofNat', UInt8.toNat_ofNat', Nat.mod_eq_of_lt (by omega), Nat.mod_eq_of_lt (by omega)] at h1
      have h2 := ih (fun z hz => hx z (by simp [hz])) (fun z hz => hy z (by simp [hz])) h.2
      rw [h2]; congr 1; omega
theorem take_str (xs : List Int) (p : Nat) : ((strOfNums xs).extract 0 p).toList = (xs.take p).map fun n => UInt8.ofNat n.toNat := by
  rw [toList_data, Lib.extract_data, strOfNums_data]
  simp
theorem ne_str {xs ys : List Int} {p : Nat} (hx : bytes xs) (hy : bytes ys) (h : xs.take p ≠ ys.take p) : (((strOfNums xs).extract 0 p).toList == ((strOfNums ys).extract 0 p).toList) = false := by
  rw [take_str, take_str, beq_eq_false_iff_ne]
  exact fun e => h (map_inj8 (fun z hz => hx z (List.mem_of_mem_take hz)) (fun z hz => hy z (List.mem_of_mem_take hz)) e)
theorem ne_whole {xs ys : List Int} {p : Nat} (hx : bytes xs) (hy : bytes ys) (h1 : xs.length ≤ p) (h2 : ys.length ≤ p) (h : xs ≠ ys) : (((strOfNums xs).extract 0 p).toList == ((strOfNums ys).extract 0 p).toList) = false :=
  ne_str hx hy (by rw [List.take_of_length_le h1, List.take_of_length_le h2]; exact h)
end Go.Proofs.Ytgegmbkjkiifaaa
