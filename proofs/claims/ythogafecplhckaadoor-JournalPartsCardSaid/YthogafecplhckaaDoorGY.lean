/- GK The longer the greater: plain facts on the bytes of numbers. GM There and back: what a number's bytes are read as, and which bytes are read as one: plain facts. -/
import Derived.Test.YthogafecplhckaaDoorGZ
import Derived.Deep.RegionHeld3
import Derived.IntWalk
namespace Go.Proofs.YthogafecplhckaaDoor
open Go.RowKit
set_option linter.unusedSimpArgs false
theorem groups_small {u : Nat} (h : u < 128) : groupsZ u = 1 := by
  have : Lib.bitLen u ≤ 7 := by
    have := Lib.bitLenAux_fuel 7 u h 64 (by omega)
    unfold Lib.bitLen; rw [this]; exact bitLenAux_le 7 u
  unfold groupsZ; omega
theorem groups_more {u : Nat} (h : 128 ≤ u) (h2 : u < 2 ^ 64) : groupsZ u = 1 + groupsZ (u / 128) := by
  have e := Lib.bitLen_shift 7 u h h2
  have e2 : u / 2 ^ 7 = u / 128 := rfl
  rw [e2] at e
  have h1 : 1 ≤ Lib.bitLen (u / 128) := by unfold Lib.bitLen; rw [Lib.bitLenAux, if_neg (by omega)]; omega
  unfold groupsZ; rw [e]; omega
theorem strOf_sB (s : ByteArray) : strOfNums (sB s) = s := by
  apply ByteArray.ext
  apply Array.ext'
  rw [strOfNums_data, sB, List.map_map]
  conv => rhs; rw [← List.map_id s.data.toList]
  apply List.map_congr_left
  intro b _
  simp
theorem conv_row {w : World} {b off c : Nat} {xs : List Int} (h : Row w (some ⟨b, off, none⟩) (xs.map (Value.int .u8))) {n : Nat} (hn : n = xs.length) :
    Sem.run Tryd.prog (convert 25 9 (.slice (some ⟨b, off, none⟩) n c)) w = .ok (.string (strOfNums xs)) w := by
  subst hn
  refine run_convert_bytes_arg (P := Tryd.prog) w 25 5 Tryd.underlying25 Tryd.underlying5 b off xs.length c xs rfl (fun i hi => ?_) 9 Tryd.underlying9
  rcases h with h | ⟨b', off', he, hc⟩
  · simp at h; subst h; simp at hi
  · cases he
    rw [List.getD_eq_getElem?_getD, List.getElem?_eq_getElem hi]
    exact hc i _ (by rw [List.getElem?_map, List.getElem?_eq_getElem hi]; rfl)
theorem row_on {W w1 : World} {A : Option Addr} {xs : List Value} (hb : Below W.heap.size W w1) (h : Row W A xs) : Row w1 A xs := h.keep (Nat.le_refl _) hb
theorem below_on {V W w1 : World} (hb : Below W.heap.size W w1) (h : Below V.heap.size V W) : Below V.heap.size V w1 := bthen h hb
theorem conv_q {w : World} {b off c : Nat} {xs : List Int} (h : Row w (some ⟨b, off, none⟩) (xs.map (Value.int .u8))) {n : Nat} {q : ByteArray} (hn : n = xs.length) (hq : q = strOfNums xs) :
    Sem.run Tryd.prog (convert 25 9 (.slice (some ⟨b, off, none⟩) n c)) w = .ok (.string q) w := by subst hq; exact conv_row h hn
end Go.Proofs.YthogafecplhckaaDoor
namespace Go.Proofs.YthogafecplhckaaDoor
open Go.RowKit
theorem groups_hi (u : Nat) (h : u < 2 ^ 64) : u < 128 ^ groupsZ u := by
  have h1 : u < 2 ^ Lib.bitLen u := bitLenAux_lt 64 u h
  have h2 : Lib.bitLen u ≤ 7 * groupsZ u := by unfold groupsZ; omega
  have h3 : 2 ^ Lib.bitLen u ≤ 2 ^ (7 * groupsZ u) := Nat.pow_le_pow_right (by omega) h2
  rw [Nat.pow_mul] at h3
  exact Nat.lt_of_lt_of_le h1 h3
theorem groups_lo (u : Nat) (h : 1 < groupsZ u) : 128 ^ (groupsZ u - 1) ≤ u := by
  have h0 : u ≠ 0 := by
    intro e; subst e
    have : groupsZ 0 = 1 := groups_small (by omega)
    omega
  have h1 : 2 ^ (Lib.bitLen u - 1) ≤ u := bitLenAux_ge 64 u h0 (by omega)
  have h2 : 7 * (groupsZ u - 1) ≤ Lib.bitLen u - 1 := by unfold groupsZ at h ⊢; omega
  have h3 : 2 ^ (7 * (groupsZ u - 1)) ≤ 2 ^ (Lib.bitLen u - 1) := Nat.pow_le_pow_right (by omega) h2
  rw [Nat.pow_mul] at h3
  exact Nat.le_trans h3 h1
theorem groups_mono {u v : Nat} (h : u ≤ v) (hv : v < 2 ^ 64) : groupsZ u ≤ groupsZ v := by
  rcases Nat.lt_or_ge (groupsZ v) (groupsZ u) with hlt | hge
  · have h1 := (groups_bd v).1
    have h2 := groups_lo u (by omega)
    have h3 := groups_hi v hv
    have h4 : 128 ^ groupsZ v ≤ 128 ^ (groupsZ u - 1) := Nat.pow_le_pow_right (by omega) (by omega)
    omega
  · exact hge
/-- The last r bytes of a number. -/
def digZ : Nat → Nat → List Int
  | 0, _ => []
  | r + 1, u => ((u / 128 ^ r % 128 + if 0 < r then 128 else 0 : Nat) : Int) :: digZ r u
theorem digZ_eq (u G : Nat) : ∀ r, r ≤ G → (List.range r).map (fun i => byteI u G (G - r + i)) = digZ r u := by
  intro r
  induction r with
  | zero => intro _; rfl
  | succ r ih =>
    intro h
    rw [List.range_succ_eq_map, List.map_cons, List.map_map, digZ]
    congr 1
    · unfold byteI
      rw [Nat.pow_mul, show G - 1 - (G - (r + 1) + 0) = r from by omega]
      have e : (G - (r + 1) + 0 + 1 < G) ↔ 0 < r := by omega
      have e2 : (2 : Nat) ^ 7 = 128 := rfl
      rw [e2]
      by_cases h0 : 0 < r
      · rw [if_pos (e.2 h0), if_pos h0]
      · rw [if_neg (fun h => h0 (e.1 h)), if_neg h0]
    · rw [← ih (by omega)]
      apply List.map_congr_left
      intro i _
      show byteI u G (G - (r + 1) + (i + 1)) = byteI u G (G - r + i)
      rw [show G - (r + 1) + (i + 1) = G - r + i from by omega]
theorem enc_dig (u : Nat) : encI u = digZ (groupsZ u) u := by
  rw [← digZ_eq u (groupsZ u) (groupsZ u) (Nat.le_refl _), Nat.sub_self]
  unfold encI
  apply List.map_congr_left
  intro i _
  rw [Nat.zero_add]
def lessZ : List Int → List Int → Bool
  | _, [] => false
  | [], _ :: _ => true
  | a :: x, b :: y => decide (a < b) || (decide (a = b) && lessZ x y)
theorem mod_pow_succ (u r : Nat) : u % 128 ^ (r + 1) = u / 128 ^ r % 128 * 128 ^ r + u % 128 ^ r := by
  rw [Nat.pow_succ, Nat.mod_mul]
  rw [Nat.mul_comm (128 ^ r), Nat.add_comm]
theorem dig_less (u v : Nat) : ∀ r, u % 128 ^ r < v % 128 ^ r → lessZ (digZ r u) (digZ r v) = true := by
  intro r
  induction r with
  | zero => intro h; simp at h; omega
  | succ r ih =>
    intro h
    rw [mod_pow_succ, mod_pow_succ] at h
    have hp : 0 < 128 ^ r := Nat.pow_pos (by omega)
    have h1 := Nat.mod_lt u hp
    have h2 := Nat.mod_lt v hp
    generalize hq : u / 128 ^ r % 128 = p at *
    generalize hq2 : v / 128 ^ r % 128 = q at *
    rw [digZ, digZ, lessZ, hq, hq2]
    rcases Nat.lt_trichotomy p q with hlt | heq | hgt
    · rw [Bool.or_eq_true]; left
      simp only [decide_eq_true_eq]; split <;> omega
    · subst heq
      have := ih (by omega)
      simp [this]
    · exfalso
      have h3 : (q + 1) * 128 ^ r ≤ p * 128 ^ r := Nat.mul_le_mul_right _ hgt
      rw [Nat.add_mul] at h3
      omega
theorem less_irrefl_ne : ∀ {x y : List Int}, lessZ x y = true → x ≠ y := by
  intro x
  induction x with
  | nil => intro y h e; subst e; simp [lessZ] at h
  | cons a x ih =>
    intro y h e; subst e
    rw [lessZ] at h
    have h2 : lessZ x x = true := by simpa using h
    exact ih h2 rfl
/-- Of two lesser folded numbers: fewer bytes, or as many and below. -/
theorem enc_less {u v : Nat} (h : u < v) (hv : v < 2 ^ 64) : groupsZ u < groupsZ v ∨ (groupsZ u = groupsZ v ∧ lessZ (encI u) (encI v) = true) := by
  rcases Nat.lt_or_eq_of_le (groups_mono (Nat.le_of_lt h) hv) with hlt | heq
  · exact .inl hlt
  · refine .inr ⟨heq, ?_⟩
    rw [enc_dig, enc_dig, heq]
    have h1 := groups_hi u (by omega)
    have h2 := groups_hi v hv
    rw [heq] at h1
    exact dig_less u v _ (by rw [Nat.mod_eq_of_lt h1, Nat.mod_eq_of_lt h2]; exact h)
theorem byteI_bd (u G i : Nat) : 0 ≤ byteI u G i ∧ byteI u G i ≤ 255 := by
  unfold byteI; split <;> omega
theorem encI_bytes (u : Nat) : bytes (encI u) := by
  intro x hx
  simp only [encI, List.mem_map] at hx
  obtain ⟨i, _, rfl⟩ := hx
  exact byteI_bd _ _ _
/-- The bytes of a shorter one do not begin a longer one's. -/
theorem enc_prefix {u v : Nat} (h : groupsZ u < groupsZ v) : (encI u).take (groupsZ u) ≠ (encI v).take (groupsZ u) := by
  intro e
  have hb := groups_bd u
  have e1 := congrArg (fun l : List Int => l[groupsZ u - 1]?) e
  simp only [List.getElem?_take_of_lt (show groupsZ u - 1 < groupsZ u by omega)] at e1
  unfold encI at e1
  rw [List.getElem?_map, List.getElem?_map, List.getElem?_range (by omega), List.getElem?_range (by omega)] at e1
  simp only [Option.map_some, Option.some.injEq] at e1
  rw [byteI_last (by omega), byteI_more (by omega)] at e1
  omega
theorem less_bytes : ∀ {x y : List Int}, bytes x → bytes y → lessZ x y = true → Op.bytesLess (x.map fun n => UInt8.ofNat n.toNat) (y.map fun n => UInt8.ofNat n.toNat) = true := by
  intro x
  induction x with
  | nil =>
    intro y _ _ h
    cases y with
    | nil => simp [lessZ] at h
    | cons b y => rfl
  | cons a x ih =>
    intro y hx hy h
    cases y with
    | nil => simp [lessZ] at h
    | cons b y =>
      have ha := hx a (by simp)
      have hb := hy b (by simp)
      rw [lessZ, Bool.or_eq_true, Bool.and_eq_true, decide_eq_true_eq, decide_eq_true_eq] at h
      rw [List.map_cons, List.map_cons, Op.bytesLess, Bool.or_eq_true, Bool.and_eq_true]
      rcases h with h | ⟨rfl, h⟩
      · left
        rw [decide_eq_true_eq, UInt8.lt_iff_toNat_lt, UInt8.toNat_ofNat', UInt8.toNat_ofNat', Nat.mod_eq_of_lt (by omega), Nat.mod_eq_of_lt (by omega)]
        omega
      · right
        exact ⟨by simp, ih (fun z hz => hx z (by simp [hz])) (fun z hz => hy z (by simp [hz])) h⟩
end Go.Proofs.YthogafecplhckaaDoor
namespace Go.Proofs.YthogafecplhckaaDoor
open Go.RowKit
set_option linter.unusedSimpArgs false
section
variable {P : Program} {l : List Oper} {Q : Exit → Act → World → Prop} {md : Region.Mode} {S : World → Prop}
/-- An operation of a drawn region that is carried out, and looks at no memory but what S tells: it is taken next. -/
theorem take_want {i : Nat} {oi : Oper} {v : Value} {fuel : Nat} {listed : Array Bool} {a : Act} {w : World} (hi : l[i]? = some oi)
    (hs : Region.noSelect l.toArray = true) (hf : Region.free md l.toArray listed i = true) (hr : (Region.ready md l.toArray listed).contains i = true)
    (hQ : ∀ c a w, Q (.panic c) (a.put oi.dst v) w → Q (.panic c) a w) (hw : Region.wanted oi (yielded l.toArray a.tmps) = true) (hy : ∀ w, S w → (execOp a.eval oi).run P w = .ok (.value v) w) (hS : S w)
    (h : wpAnyH P md l.toArray Q S fuel (listed.setIfInBounds i true) (a.put oi.dst v) w) : wpAnyH P md l.toArray Q S (fuel + 1) listed a w :=
  wpAnyH_take (by simpa using hi) hs hf hr hQ (Or.inl ⟨hw, hy⟩) hS h
/-- One whose guard says no. -/
theorem take_skip {i : Nat} {oi : Oper} {fuel : Nat} {listed : Array Bool} {a : Act} {w : World} (hi : l[i]? = some oi)
    (hs : Region.noSelect l.toArray = true) (hf : Region.free md l.toArray listed i = true) (hr : (Region.ready md l.toArray listed).contains i = true)
    (hQ : ∀ c a w, Q (.panic c) (a.put oi.dst undef) w → Q (.panic c) a w) (hw : Region.wanted oi (yielded l.toArray a.tmps) = false) (hS : S w)
    (h : wpAnyH P md l.toArray Q S fuel (listed.setIfInBounds i true) (a.put oi.dst undef) w) : wpAnyH P md l.toArray Q S (fuel + 1) listed a w :=
  wpAnyH_take (by simpa using hi) hs hf hr hQ (Or.inr ⟨hw, rfl⟩) hS h
end
theorem str_size (xs : List Int) : (strOfNums xs).size = xs.length := strOfNums_size xs
theorem toList_data (s : ByteArray) : s.toList = s.data.toList := ByteArray.toList_eq s
theorem slice_to (s : ByteArray) (p : Nat) (h : p ≤ s.size) (W : World) : Sem.run Tryd.prog (Instr.slice 9 (.string s) none (some (.int .i64 (p : Int))) none) W = .ok (.string (s.extract 0 p)) W := by
  have := run_slice_string_h (P := Tryd.prog) (w := W) (t := 9) (s := s) Tryd.underlying9 .i64 (p : Int) (by omega) (by omega)
  simpa using this
theorem map_inj8 : ∀ {x y : List Int}, bytes x → bytes y → (x.map fun n => UInt8.ofNat n.toNat) = (y.map fun n => UInt8.ofNat n.toNat) → x = y := by
  intro x
  induction x with
  | nil => intro y _ _ h; cases y with | nil => rfl | cons b y => simp at h
  | cons a x ih =>
    intro y hx hy h
    cases y with
    | nil => simp at h
    | cons b y =>
      have ha := hx a (by simp)
      have hb := hy b (by simp)
      rw [List.map_cons, List.map_cons, List.cons.injEq] at h
      have h1 := congrArg UInt8.toNat h.1
      rw [UInt8.toNat_ofNat', UInt8.toNat_ofNat', Nat.mod_eq_of_lt (by omega), Nat.mod_eq_of_lt (by omega)] at h1
      have h2 := ih (fun z hz => hx z (by simp [hz])) (fun z hz => hy z (by simp [hz])) h.2
      rw [h2]; congr 1; omega
theorem take_str (xs : List Int) (p : Nat) : ((strOfNums xs).extract 0 p).toList = (xs.take p).map fun n => UInt8.ofNat n.toNat := by
  rw [toList_data, Lib.extract_data, strOfNums_data]
  simp
theorem ne_str {xs ys : List Int} {p : Nat} (hx : bytes xs) (hy : bytes ys) (h : xs.take p ≠ ys.take p) : (((strOfNums xs).extract 0 p).toList == ((strOfNums ys).extract 0 p).toList) = false := by
  rw [take_str, take_str, beq_eq_false_iff_ne]
  exact fun e => h (map_inj8 (fun z hz => hx z (List.mem_of_mem_take hz)) (fun z hz => hy z (List.mem_of_mem_take hz)) e)
theorem ne_whole {xs ys : List Int} {p : Nat} (hx : bytes xs) (hy : bytes ys) (h1 : xs.length ≤ p) (h2 : ys.length ≤ p) (h : xs ≠ ys) : (((strOfNums xs).extract 0 p).toList == ((strOfNums ys).extract 0 p).toList) = false :=
  ne_str hx hy (by rw [List.take_of_length_le h1, List.take_of_length_le h2]; exact h)
end Go.Proofs.YthogafecplhckaaDoor
namespace Go.Proofs.YthogafecplhckaaDoor
open Go.RowKit
theorem div_step (u r : Nat) : u / 128 ^ (r + 1) * 128 + u / 128 ^ r % 128 = u / 128 ^ r := by
  rw [Nat.pow_succ, ← Nat.div_div_eq_div_mul]; omega
theorem dig_head_more (u r : Nat) (h : 0 < r) : digZ (r + 1) u = ((u / 128 ^ r % 128 + 128 : Nat) : Int) :: digZ r u := by rw [digZ, if_pos h]
theorem dig_head_last (u : Nat) : digZ 1 u = [((u % 128 : Nat) : Int)] := by simp [digZ]
theorem num_dig (u : Nat) (hu : u < 2 ^ 64) (rest : List Int) : ∀ r i : Nat, (i = 0 → r = 0 ∨ u / 128 ^ r % 128 ≠ 0) →
    numAux i (u / 128 ^ (r + 1)) (digZ (r + 1) u ++ rest) = some (u, i + r + 1) := by
  intro r
  induction r with
  | zero =>
    intro i _
    rw [dig_head_last, List.singleton_append, num_end (by omega) (by omega)]
    have : ((((u % 128 : Nat) : Int)) % 128).toNat = u % 128 := by omega
    rw [this]
    simp; omega
  | succ r ih =>
    intro i h
    rw [dig_head_more u (r + 1) (by omega), List.cons_append]
    have h1 : u / 128 ^ (r + 1 + 1) ≤ 144115188075855871 := by
      have e : u / 128 ^ (r + 1 + 1) ≤ u / 128 := by
        rw [Nat.pow_succ, Nat.mul_comm, ← Nat.div_div_eq_div_mul]; exact Nat.div_le_self _ _
      omega
    rw [num_go (by omega) (by omega)]
    have e2 : ((((u / 128 ^ (r + 1) % 128 + 128 : Nat) : Int)) % 128).toNat = u / 128 ^ (r + 1) % 128 := by omega
    rw [e2, div_step, ih (i + 1) (by omega)]
    rw [show i + 1 + r + 1 = i + (r + 1) + 1 from by omega]
theorem num_enc (u : Nat) (hu : u < 2 ^ 64) (rest : List Int) : numAux 0 0 (encI u ++ rest) = some (u, groupsZ u) := by
  have hb := groups_bd u
  have hh := groups_hi u hu
  obtain ⟨r, hr⟩ : ∃ r, groupsZ u = r + 1 := ⟨groupsZ u - 1, by omega⟩
  rw [enc_dig, hr]
  have h0 : u / 128 ^ (r + 1) = 0 := Nat.div_eq_of_lt (by rw [← hr]; exact hh)
  have := num_dig u hu rest r 0 (fun _ => by
    rcases Nat.eq_zero_or_pos r with h | h
    · exact .inl h
    · right
      have hl := groups_lo u (by omega)
      rw [hr, Nat.add_sub_cancel] at hl
      have h1 : 1 ≤ u / 128 ^ r := (Nat.one_le_div_iff (Nat.pow_pos (by omega))).2 hl
      have h2 := div_step u r
      rw [h0] at h2
      omega)
  rw [h0] at this
  rw [this]; simp
theorem numP_enc {v : Int} (h1 : -9223372036854775808 ≤ v) (h2 : v ≤ 9223372036854775807) (rest : List Int) : numP (encV v ++ rest) = (v, groupsZ (foldZ v).toNat) := by
  have hb := fold_bd h1 h2
  unfold numP encV
  rw [num_enc _ (by omega)]
  show (unfoldZ ((foldZ v).toNat : Int), _) = _
  rw [Int.toNat_of_nonneg hb.1, unfold_fold]
theorem num_inv (bs : List Int) : ∀ i a v k : Nat, bytes bs → numAux i a bs = some (v, k) → ∃ r, k = i + r ∧ 0 < r ∧ bs.take r = digZ r v ∧ v / 128 ^ r = a ∧ (i = 0 → r = 1 ∨ v / 128 ^ (r - 1) % 128 ≠ 0) := by
  induction bs with
  | nil => intro i a v k _ h; simp [numAux] at h
  | cons c cs ih =>
    intro i a v k hb h
    have hc := hb c (by simp)
    by_cases h1 : (i = 0 ∧ c = 128) ∨ 144115188075855871 < a
    · rw [num_stop h1] at h; cases h
    · by_cases h2 : c < 128
      · rw [num_end h1 h2] at h
        simp only [Option.some.injEq, Prod.mk.injEq] at h
        refine ⟨1, by omega, by omega, ?_, by simp; omega, fun _ => .inl rfl⟩
        rw [dig_head_last, List.take_succ_cons, List.take_zero]
        congr 1; omega
      · rw [num_go h1 h2] at h
        obtain ⟨r, hk, hr, ht, hd, -⟩ := ih _ _ _ _ (fun x hx => hb x (by simp [hx])) h
        have hs := div_step v r
        refine ⟨r + 1, by omega, by omega, ?_, by omega, fun hi => .inr ?_⟩
        · rw [dig_head_more v r hr, List.take_succ_cons, ht]
          congr 1; omega
        · rw [Nat.add_sub_cancel]; omega
theorem groups_eq {v k : Nat} (h1 : v < 128 ^ k) (h2 : 0 < k) (h3 : k = 1 ∨ 128 ^ (k - 1) ≤ v) (hv : v < 2 ^ 64) : groupsZ v = k := by
  have hb := groups_bd v
  have hh := groups_hi v hv
  rcases Nat.lt_trichotomy (groupsZ v) k with h | h | h
  · rcases h3 with h3 | h3
    · omega
    · have : 128 ^ groupsZ v ≤ 128 ^ (k - 1) := Nat.pow_le_pow_right (by omega) (by omega)
      omega
  · exact h
  · have hl := groups_lo v (by omega)
    have : 128 ^ k ≤ 128 ^ (groupsZ v - 1) := Nat.pow_le_pow_right (by omega) (by omega)
    omega
/-- One way: a number that is read of bytes has just those bytes. -/
theorem numP_back {bs : List Int} {v : Int} {l : Nat} (hb : bytes bs) (h : numP bs = (v, l)) (hl : 0 < l) : encV v = bs.take l := by
  unfold numP at h
  cases hn : numAux 0 0 bs with
  | none => rw [hn] at h; simp only [Prod.mk.injEq] at h; omega
  | some p =>
    obtain ⟨u, k⟩ := p
    rw [hn] at h
    simp only [Prod.mk.injEq] at h
    obtain ⟨rfl, rfl⟩ := h
    have hle := num_le bs 0 0 u k hn
    obtain ⟨r, hk, hr, ht, hd, hz⟩ := num_inv bs 0 0 u k hb hn
    have hkr : k = r := by omega
    subst hkr
    have hu : u < 128 ^ k := by
      rcases Nat.lt_or_ge u (128 ^ k) with h | h
      · exact h
      · have := (Nat.one_le_div_iff (Nat.pow_pos (by omega : 0 < 128))).2 h; omega
    have hlo : k = 1 ∨ 128 ^ (k - 1) ≤ u := by
      rcases hz rfl with h | h
      · exact .inl h
      · right
        rcases Nat.lt_or_ge u (128 ^ (k - 1)) with h2 | h2
        · rw [Nat.div_eq_of_lt h2] at h; simp at h
        · exact h2
    have hg := groups_eq hu hr hlo (by omega)
    unfold encV
    rw [fold_unfold (by omega), Int.toNat_natCast, enc_dig, hg, ht]
end Go.Proofs.YthogafecplhckaaDoor
