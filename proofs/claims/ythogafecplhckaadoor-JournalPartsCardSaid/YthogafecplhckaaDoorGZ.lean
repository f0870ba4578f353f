/- Numbers folded and unfolded, and the bits that do it. GC What number a list of bytes begins with: plain facts. GE GF GG GH GI -/
import Derived.Test.YthogafecplhckaaDoorMA
import Derived.Laws.BitsAllLaws
import Derived.Test.YthogafecplhckaaDoorGS
import Derived.Lib.AppendStr
import Derived.Laws.AppendOwnNone
import Derived.Laws.BytesArg
namespace Go.Proofs.YthogafecplhckaaDoor
open Go.RowKit
theorem u64_not (x : Int) (h0 : 0 ≤ x) (h1 : x ≤ 18446744073709551615) : bits .xor .u64 IntKind.u64.max x = 18446744073709551615 - x := by
  obtain ⟨n, rfl⟩ := Int.eq_ofNat_of_zero_le h0
  have e : IntKind.u64.max = ((18446744073709551615 : Nat) : Int) := rfl
  rw [e, u64_xor_nat _ _ (by omega) (by omega)]
  have hb : (BitVec.allOnes 64 ^^^ BitVec.ofNat 64 n).toNat = 18446744073709551615 - n := by
    rw [BitVec.allOnes_xor, BitVec.toNat_not, BitVec.toNat_ofNat, Nat.mod_eq_of_lt (by omega)]
  rw [BitVec.toNat_xor, BitVec.toNat_ofNat, Nat.mod_eq_of_lt (by omega)] at hb
  have hc : (BitVec.allOnes 64).toNat = 18446744073709551615 := by decide
  rw [hc] at hb
  rw [hb]; omega
theorem u64_wrap (n : Int) : IntKind.u64.wrap n = n % 18446744073709551616 := by simp [IntKind.wrap, IntKind.bits, IntKind.signed]
/-- A number, folded. -/
def foldZ (n : Int) : Int := if n < 0 then -2 * n - 1 else 2 * n
def unfoldZ (u : Int) : Int := if u % 2 = 1 then -(u / 2) - 1 else u / 2
theorem fold_bd {n : Int} (h1 : -9223372036854775808 ≤ n) (h2 : n ≤ 9223372036854775807) : 0 ≤ foldZ n ∧ foldZ n ≤ 18446744073709551615 := by unfold foldZ; split <;> omega
theorem unfold_bd {u : Int} (h1 : 0 ≤ u) (h2 : u ≤ 18446744073709551615) : -9223372036854775808 ≤ unfoldZ u ∧ unfoldZ u ≤ 9223372036854775807 := by unfold unfoldZ; split <;> omega
theorem fold_unfold {u : Int} (h : 0 ≤ u) : foldZ (unfoldZ u) = u := by unfold foldZ unfoldZ; split <;> split <;> omega
theorem unfold_fold (n : Int) : unfoldZ (foldZ n) = n := by unfold foldZ unfoldZ; split <;> split <;> omega
theorem fold_eq (n : Int) (h1 : n < 0) (h2 : -9223372036854775808 ≤ n) : bits .xor .u64 IntKind.u64.max (IntKind.u64.wrap (IntKind.u64.wrap n * 2)) = foldZ n := by
  rw [u64_not _ (by rw [u64_wrap]; omega) (by rw [u64_wrap]; omega), u64_wrap, u64_wrap]; unfold foldZ; rw [if_pos h1]; omega
theorem fold_eq' (n : Int) (h1 : 0 ≤ n) (h2 : n ≤ 9223372036854775807) : IntKind.u64.wrap (n * 2) = foldZ n := by
  rw [u64_wrap]; unfold foldZ; rw [if_neg (by omega)]; omega
theorem ret_u {k : IntKind} {a b : Int} (h : a = b) : Ending.returned (.int k a) = .returned (.int k b) := by rw [h]
end Go.Proofs.YthogafecplhckaaDoor
namespace Go.Proofs.YthogafecplhckaaDoor
open Go.RowKit
set_option maxRecDepth 100000 in
set_option maxHeartbeats 400000 in
theorem fold_any (n : Int) (w : World) (h1 : -9223372036854775808 ≤ n) (h2 : n ≤ 9223372036854775807) :
    Calls Tryd.prog 69 #[.int .i64 n] w fun e w' => e = .returned (.int .u64 (foldZ n)) ∧ w = w' := by
  by_cases hn : n < 0
  · go_enter Tryd.func69, Tryd.ntmps69
    go_wp2
    go_ret
    exact ⟨ret_u (fold_eq n hn h1), rfl⟩
  · have h0 : 0 ≤ n := by omega
    go_enter Tryd.func69, Tryd.ntmps69
    go_wp2
    go_ret
    exact ⟨ret_u (by unfold foldZ; rw [if_neg (by omega)]; omega), rfl⟩
set_option maxRecDepth 100000 in
set_option maxHeartbeats 400000 in
theorem rfold_any (n : Int) (w : World) (h1 : -9223372036854775808 ≤ n) (h2 : n ≤ 9223372036854775807) :
    Calls Tryd.prog 82 #[.int .i64 n] w fun e w' => e = .returned (.int .u64 (foldZ n)) ∧ w = w' := by
  by_cases hn : n < 0
  · go_enter Tryd.func82, Tryd.ntmps82
    go_wp2
    go_ret
    exact ⟨ret_u (by unfold foldZ; rw [if_pos hn]; omega), rfl⟩
  · have h0 : 0 ≤ n := by omega
    go_enter Tryd.func82, Tryd.ntmps82
    go_wp2
    go_ret
    exact ⟨ret_u (by unfold foldZ; rw [if_neg (by omega)]), rfl⟩
theorem wrap_hi (y : Int) (h1 : 9223372036854775808 ≤ y) (h2 : y ≤ 18446744073709551615) : wrap64 y = y - 18446744073709551616 := by unfold wrap64; omega
set_option maxRecDepth 100000 in
set_option maxHeartbeats 400000 in
theorem unfold_any (u : Int) (w : World) (h1 : 0 ≤ u) (h2 : u ≤ 18446744073709551615) :
    Calls Tryd.prog 88 #[.int .u64 u] w fun e w' => e = .returned (.int .i64 (unfoldZ u)) ∧ w = w' := by
  have hb := and_one_u64 u h1 h2
  by_cases hu : u % 2 = 1
  · have hb1 : (bits BinOp.and IntKind.u64 u 1 == 1) = true := by rw [hb, hu]; rfl
    have Hu := Lib.hid hu
    clear hb hu
    go_enter Tryd.func88, Tryd.ntmps88
    go_wp2
    go_ret
    exact ⟨ret_u (by rw [u64_not _ (by omega) (by omega), wrap_hi _ (by omega) (by omega)]; unfold unfoldZ; rw [if_pos Hu.out]; omega), rfl⟩
  · have hb1 : (bits BinOp.and IntKind.u64 u 1 == 1) = false := by rw [hb]; simp; omega
    clear hb
    go_enter Tryd.func88, Tryd.ntmps88
    go_wp2
    go_ret
    exact ⟨ret_u (by unfold unfoldZ; rw [if_neg hu]), rfl⟩
set_option maxRecDepth 100000 in
set_option maxHeartbeats 400000 in
theorem runfold_any (u : Int) (w : World) (h1 : 0 ≤ u) (h2 : u ≤ 18446744073709551615) :
    Calls Tryd.prog 91 #[.int .u64 u] w fun e w' => e = .returned (.int .i64 (unfoldZ u)) ∧ w = w' := by
  by_cases hu : u % 2 = 0
  · have hb1 : (u % 2 == 0) = true := by simp [hu]
    have Hu := Lib.hid hu
    clear hu
    go_enter Tryd.func91, Tryd.ntmps91
    go_wp2
    go_ret
    exact ⟨ret_u (by unfold unfoldZ; rw [if_neg (by have := Hu.out; omega)]), rfl⟩
  · have hb1 : (u % 2 == 0) = false := by simp; omega
    have Hu := Lib.hid hu
    clear hu
    go_enter Tryd.func91, Tryd.ntmps91
    go_wp2
    go_ret
    exact ⟨ret_u (by unfold unfoldZ; rw [if_pos (by have := Hu.out; omega)]), rfl⟩
end Go.Proofs.YthogafecplhckaaDoor
namespace Go.Proofs.YthogafecplhckaaDoor
open Go.RowKit
def numAux : Nat → Nat → List Int → Option (Nat × Nat)
  | _, _, [] => none
  | i, u, c :: cs => if (i = 0 ∧ c = 128) ∨ 144115188075855871 < u then none else if c < 128 then some (u * 128 + (c % 128).toNat, i + 1) else numAux (i + 1) (u * 128 + (c % 128).toNat) cs
theorem num_stop {i u : Nat} {c : Int} {cs : List Int} (h : (i = 0 ∧ c = 128) ∨ 144115188075855871 < u) : numAux i u (c :: cs) = none := by rw [numAux, if_pos h]
theorem num_end {i u : Nat} {c : Int} {cs : List Int} (h : ¬ ((i = 0 ∧ c = 128) ∨ 144115188075855871 < u)) (hc : c < 128) : numAux i u (c :: cs) = some (u * 128 + (c % 128).toNat, i + 1) := by rw [numAux, if_neg h, if_pos hc]
theorem num_go {i u : Nat} {c : Int} {cs : List Int} (h : ¬ ((i = 0 ∧ c = 128) ∨ 144115188075855871 < u)) (hc : ¬ c < 128) : numAux i u (c :: cs) = numAux (i + 1) (u * 128 + (c % 128).toNat) cs := by rw [numAux, if_neg h, if_neg hc]
/-- The number, and how many bytes it has; 0 bytes: there is none. -/
def numP (bs : List Int) : Int × Nat := match numAux 0 0 bs with | none => (0, 0) | some (u, k) => (unfoldZ u, k)
def bytes (bs : List Int) : Prop := ∀ x ∈ bs, 0 ≤ x ∧ x ≤ 255
theorem num_le (cs : List Int) : ∀ (i u v k : Nat), numAux i u cs = some (v, k) → i < k ∧ k ≤ i + cs.length ∧ v ≤ 18446744073709551615 := by
  induction cs with
  | nil => intro i u v k h; simp [numAux] at h
  | cons c cs ih =>
    intro i u v k h
    by_cases h1 : (i = 0 ∧ c = 128) ∨ 144115188075855871 < u
    · rw [num_stop h1] at h; cases h
    · by_cases h2 : c < 128
      · rw [num_end h1 h2] at h
        simp only [Option.some.injEq, Prod.mk.injEq] at h
        have := Int.emod_lt_of_pos c (show (0 : Int) < 128 by omega)
        have := Int.emod_nonneg c (show (128 : Int) ≠ 0 by omega)
        rw [List.length_cons]; omega
      · rw [num_go h1 h2] at h
        have := ih _ _ _ _ h
        rw [List.length_cons]; omega
theorem u8_mask (c : Int) (h0 : 0 ≤ c) (h1 : c ≤ 255) : bits .and .u8 c 127 = c % 128 := by
  rw [u8_and c 127 h0 (by omega) (by omega) (by omega)]
  have : (127 : Int).toNat = 127 := rfl
  rw [this, nat_mask7]; omega
theorem u64_join (u c : Int) (h0 : 0 ≤ u) (h1 : u ≤ 144115188075855871) (h2 : 0 ≤ c) (h3 : c < 128) : bits .or .u64 (u * 128) c = u * 128 + c := by
  rw [u64_or _ _ (by omega) (by omega) h2 (by omega), nat_join 7 _ _ (by omega) (by omega)]; omega
end Go.Proofs.YthogafecplhckaaDoor
namespace Go.Proofs.YthogafecplhckaaDoor
open Go.RowKit
set_option linter.unusedSimpArgs false
set_option maxRecDepth 100000 in
set_option maxHeartbeats 1000000 in
theorem number_any (A : Option Addr) (n c : Nat) (bs : List Int) (w : World) (hA : Row w A (bs.map (Value.int .u8))) (hn : n ≤ 9223372036854775807) (hz : n = bs.length) (hb : bytes bs) (v : Int) (l : Nat) (hr : numP bs = (v, l)) :
    Calls Tryd.prog 71 #[.slice A n c] w fun e w' => e = .returned (.tuple #[.int .i64 v, .int .i64 l]) ∧ w = w' := by
  have HZ := Lib.hid hz
  have HB := Lib.hid hb
  have HR := Lib.hid hr
  clear hz hb hr
  go_enter Tryd.func71, Tryd.ntmps71
  go_wp2_with fail
  go_loop [4, 5, 6, 9] (fun u _ _ i => ∃ k U : Nat, k ≤ n ∧ i = .int .i64 k ∧ u = .int .u64 U ∧ (U : Int) ≤ 18446744073709551615 ∧ Hid (numAux 0 0 bs = numAux k U (bs.drop k))) (fun _ _ _ i => n - (intOf i).toNat)
  case atStart => exact ⟨0, 0, Nat.zero_le _, rfl, rfl, by omega, rfl⟩
  case round =>
    obtain ⟨k, U, hk, rfl, rfl, hU, HU⟩ := hrel
    by_cases hlt : k < n
    · have hkz : k < bs.length := by have := HZ.out; omega
      obtain ⟨b, off, hA', hcell⟩ := hA.cell hkz
      obtain ⟨x, hx⟩ : ∃ x, x = bs[k] := ⟨_, rfl⟩
      obtain ⟨x0, x1⟩ := HB.out x (by rw [hx]; exact List.getElem_mem _)
      have hd : bs.drop k = x :: bs.drop (k + 1) := by rw [hx]; exact List.drop_eq_getElem_cons hkz
      have hU2 := HU.out
      rw [hd] at hU2
      rw [← hx] at hcell
      have HU2 := Lib.hid hU2
      clear hx hd hU2 HU hA
      subst hA'
      have hm1 := u8_mask x x0 x1
      by_cases hbig : 144115188075855871 < U
      · have Hv := Lib.hid (show v = 0 ∧ l = 0 by
          have := HR.out
          unfold numP at this
          rw [HU2.out, num_stop (.inr hbig)] at this
          simp only [Prod.mk.injEq] at this
          exact ⟨this.1.symm, this.2.symm⟩)
        clear HR HU2 hm1
        have hbig' : (144115188075855871 : Int) < (U : Int) := by omega
        by_cases hk0 : k = 0
        · subst hk0
          rw [Nat.add_zero] at hcell
          by_cases hx8 : x = 128
          all_goals
            go_wp2
            go_ret2
            obtain ⟨rfl, rfl⟩ := Hv.out
            exact ⟨rfl, rfl⟩
        · have hk1 : (1 : Int) ≤ (k : Int) := by omega
          go_wp2
          go_ret2
          obtain ⟨rfl, rfl⟩ := Hv.out
          exact ⟨rfl, rfl⟩
      · have hbig' : (U : Int) ≤ 144115188075855871 := by omega
        by_cases hst : k = 0 ∧ x = 128
        · have Hv := Lib.hid (show v = 0 ∧ l = 0 by
            have := HR.out
            unfold numP at this
            rw [HU2.out, num_stop (.inl hst)] at this
            simp only [Prod.mk.injEq] at this
            exact ⟨this.1.symm, this.2.symm⟩)
          clear HR HU2 hm1
          obtain ⟨rfl, rfl⟩ := hst
          rw [Nat.add_zero] at hcell
          go_wp2
          go_ret2
          obtain ⟨rfl, rfl⟩ := Hv.out
          exact ⟨rfl, rfl⟩
        · have hj := u64_join U (x % 128) (by omega) hbig' (by omega) (by omega)
          have hno : ¬ ((k = 0 ∧ x = 128) ∨ 144115188075855871 < U) := by omega
          have hUn : (((U * 128 + (x % 128).toNat : Nat)) : Int) = (U : Int) * 128 + x % 128 := by omega
          by_cases hlast : x < 128
          · have Hv := Lib.hid (show v = unfoldZ ((U : Int) * 128 + x % 128) ∧ l = k + 1 by
              have := HR.out
              unfold numP at this
              rw [HU2.out, num_end hno hlast] at this
              simp only [Prod.mk.injEq] at this
              exact ⟨by rw [← this.1, hUn], this.2.symm⟩)
            clear HR HU2 hUn hno
            by_cases hk0 : k = 0
            · subst hk0
              rw [Nat.add_zero] at hcell
              have hx8 : (x == 128) = false := by simp; omega
              clear hst
              go_wp2_with (go_at_call 88; refine (unfold_any _ _ (by omega) (by omega)).mono ?_; rintro e w1 ⟨rfl, rfl⟩)
              go_ret2
              obtain ⟨rfl, rfl⟩ := Hv.out
              exact ⟨by simp, rfl⟩
            · have hk1 : (1 : Int) ≤ (k : Int) := by omega
              clear hst
              go_wp2_with (go_at_call 88; refine (unfold_any _ _ (by omega) (by omega)).mono ?_; rintro e w1 ⟨rfl, rfl⟩)
              go_ret2
              obtain ⟨rfl, rfl⟩ := Hv.out
              exact ⟨by simp, rfl⟩
          · have Hv := Lib.hid (show numAux 0 0 bs = numAux (k + 1) (U * 128 + (x % 128).toNat) (bs.drop (k + 1)) by rw [HU2.out, num_go hno hlast])
            have HUn := Lib.hid hUn
            clear HR HU2 hUn hno
            by_cases hk0 : k = 0
            · subst hk0
              rw [Nat.add_zero] at hcell
              have hx8 : (x == 128) = false := by simp; omega
              clear hst
              go_wp2
              go_round
              case rel => exact ⟨0 + 1, U * 128 + (x % 128).toNat, by omega, by go_num, by rw [HUn.out], by rw [HUn.out]; omega, Hv⟩
              case measure => simp [intOf]; omega
            · have hk1 : (1 : Int) ≤ (k : Int) := by omega
              clear hst
              go_wp2
              go_round
              case rel => exact ⟨k + 1, U * 128 + (x % 128).toNat, by omega, by go_num, by rw [HUn.out], by rw [HUn.out]; omega, Hv⟩
              case measure => simp [intOf]; omega
    · go_wp2
      go_ret2
      have := HR.out
      unfold numP at this
      rw [HU.out, List.drop_of_length_le (by have := HZ.out; omega)] at this
      simp only [numAux, Prod.mk.injEq] at this
      obtain ⟨rfl, rfl⟩ := this
      exact ⟨rfl, rfl⟩
end Go.Proofs.YthogafecplhckaaDoor
namespace Go.Proofs.YthogafecplhckaaDoor
open Go.RowKit
set_option linter.unusedSimpArgs false
theorem bitLenAux_le (f : Nat) : ∀ x, Lib.bitLenAux f x ≤ f := by
  induction f with
  | zero => intro x; simp [Lib.bitLenAux]
  | succ f ih => intro x; rw [Lib.bitLenAux]; split; omega; have := ih (x / 2); omega
theorem bitLenAux_lt (f : Nat) : ∀ x, x < 2 ^ f → x < 2 ^ Lib.bitLenAux f x := by
  induction f with
  | zero => intro x h; simpa [Lib.bitLenAux] using h
  | succ f ih =>
    intro x h
    rw [Lib.bitLenAux]
    split
    · rename_i h0; subst h0; simp
    · rw [Nat.pow_succ] at h
      have := ih (x / 2) (by omega)
      rw [Nat.add_comm, Nat.pow_succ]; omega
theorem bitLenAux_ge (f : Nat) : ∀ x, x ≠ 0 → 0 < f → 2 ^ (Lib.bitLenAux f x - 1) ≤ x := by
  induction f with
  | zero => intro x h h0; omega
  | succ f ih =>
    intro x h _
    rw [Lib.bitLenAux, if_neg h]
    by_cases h1 : x / 2 = 0
    · cases f with
      | zero => simp [Lib.bitLenAux]; omega
      | succ f => rw [Lib.bitLenAux, if_pos h1]; simp; omega
    · cases f with
      | zero => simp [Lib.bitLenAux]; omega
      | succ f =>
        have h2 := ih (x / 2) h1 (by omega)
        have h3 : 1 ≤ Lib.bitLenAux (f + 1) (x / 2) := by rw [Lib.bitLenAux, if_neg h1]; omega
        generalize Lib.bitLenAux (f + 1) (x / 2) = m at *
        obtain ⟨m, rfl⟩ : ∃ k, m = k + 1 := ⟨m - 1, by omega⟩
        simp only [Nat.add_sub_cancel] at h2
        rw [show 1 + (m + 1) - 1 = m + 1 from by omega, Nat.pow_succ]; omega
/-- How many bytes a folded number has. -/
def groupsZ (u : Nat) : Nat := max 1 ((Lib.bitLen u + 6) / 7)
/-- Its bytes, from the first on. -/
def byteI (u G i : Nat) : Int := (((u / 2 ^ (7 * (G - 1 - i))) % 128 + if i + 1 < G then 128 else 0 : Nat) : Int)
def encI (u : Nat) : List Int := (List.range (groupsZ u)).map (byteI u (groupsZ u))
theorem Tryd.info5 : (Tryd.prog.info? 5).map (fun i => (i.zero, i.size, i.bytes)) = some (some (.int .u8 0), 1, 1) := by kernel_rfl
theorem Row.adds {w : World} {A : Option Addr} {xs : List Value} (h : Row w A xs) : ∀ b, A = some b → ∀ j u, xs[j]? = some u → w.cell? (b.add j) = some u := by
  intro b hb j u hu
  rcases h with rfl | ⟨b', off, rfl, hc⟩
  · simp at hu
  · cases hb
    have := hc j u hu
    unfold Addr.add
    split
    · rename_i h0; subst h0; exact this
    · exact this
theorem owns_lower {w : World} {base base' : Nat} {e : TypeId} {size : Nat} {v : Value} {n : Nat} {xs : List Value} (h : w.ownsRow base e size v n xs) (hb : base' ≤ base) : w.ownsRow base' e size v n xs := by
  rcases h.2 with h0 | ⟨g, cap, cur, h1, h2, h3⟩
  · exact ⟨h.1, .inl h0⟩
  · exact ⟨h.1, .inr ⟨g, cap, cur, h1, by omega, h3⟩⟩
theorem byte_and (u m : Nat) : bits .and .u8 ((u : Int) / 2 ^ (7 * m) % 256) 127 = ((u / 2 ^ (7 * m) % 128 : Nat) : Int) := by
  have e : ((u : Int) / 2 ^ (7 * m) % 256) = ((u / 2 ^ (7 * m) % 256 : Nat) : Int) := by
    rw [Int.natCast_emod, Int.natCast_ediv, Int.natCast_pow]; rfl
  rw [e, show (127 : Int) = ((127 : Nat) : Int) from rfl, u8_and_nat _ _ (by omega) (by omega), nat_mask7]
  omega
theorem byte_or (y : Nat) (h : y < 128) : bits .or .u8 (y : Int) 128 = (y : Int) + 128 := by
  rw [show (128 : Int) = ((128 : Nat) : Int) from rfl, u8_or_nat _ _ (by omega) (by omega), Nat.or_comm, nat_join 7 _ _ (by decide) (by omega)]
  omega
theorem byteI_more {u G k : Nat} (h : k + 1 < G) : byteI u G k = ((u / 2 ^ (7 * (G - 1 - k)) % 128 : Nat) : Int) + 128 := by unfold byteI; rw [if_pos h]; rfl
theorem byteI_last {u G k : Nat} (h : ¬ k + 1 < G) : byteI u G k = ((u / 2 ^ (7 * (G - 1 - k)) % 128 : Nat) : Int) := by unfold byteI; rw [if_neg h]; rfl
/-- The bytes of a number. -/
def encV (v : Int) : List Int := encI (foldZ v).toNat
/-- What a call that answers a new list of bytes answers. -/
def MadeB (w : World) (xs : List Int) (e : Ending) (w' : World) : Prop :=
  ∃ g cap, e = .returned (.slice (some ⟨g, 0, none⟩) xs.length cap) ∧ xs.length ≤ cap ∧ w'.ownsRow w.heap.size 5 1 (.slice (some ⟨g, 0, none⟩) xs.length cap) xs.length (xs.map (Value.int .u8)) ∧ Below w.heap.size w w'
theorem encI_length (u : Nat) : (encI u).length = groupsZ u := by simp [encI]
theorem groups_bd (u : Nat) : 1 ≤ groupsZ u ∧ groupsZ u ≤ 10 := by
  have := bitLenAux_le 64 u
  unfold groupsZ Lib.bitLen; omega
theorem MadeB.of {w w' : World} {v : Value} {n : Nat} {xs : List Int} (hB : Below w.heap.size w w') (h : w'.ownsRow w.heap.size 5 1 v n (xs.map (Value.int .u8))) (hn : 0 < n) : MadeB w xs (.returned v) w' := by
  have hl : n = xs.length := by have := h.1; simpa using this.symm
  subst hl
  obtain ⟨g, cap, rfl, hc, _⟩ := Row.of_own h hn
  exact ⟨g, cap, rfl, hc, h, hB⟩
set_option maxRecDepth 100000 in
set_option maxHeartbeats 2000000 in
theorem int_any (A : Option Addr) (n c : Nat) (bs : List Int) (v : Int) (w : World) (hA : Row w A (bs.map (Value.int .u8))) (hn : n ≤ 1000000) (hz : n = bs.length) (hnc : n ≤ c) (v1 : -9223372036854775808 ≤ v) (v2 : v ≤ 9223372036854775807) :
    Calls Tryd.prog 40 #[.slice A n c, .int .i64 v] w (MadeB w (bs ++ encV v)) := by
  have HZ := Lib.hid hz
  clear hz
  obtain ⟨u, hu⟩ : ∃ u : Nat, foldZ v = u := ⟨(foldZ v).toNat, by have := fold_bd v1 v2; omega⟩
  have hu1 : (u : Int) ≤ 18446744073709551615 := by rw [← hu]; exact (fold_bd v1 v2).2
  have HU := Lib.hid hu
  clear hu
  go_enter Tryd.func40, Tryd.ntmps40
  go_wp2_with fail
  refine (fold_any _ _ v1 v2).mono ?_
  rintro e w1 ⟨rfl, rfl⟩
  rw [HU.out]
  go_wp2_with fail
  refine (Tryd.bits_Len64 _ _ (by omega) (by omega)).mono ?_
  rintro e w1 ⟨rfl, rfl⟩
  rw [Int.toNat_natCast]
  obtain ⟨L, hL⟩ : ∃ L, L = Lib.bitLen u := ⟨_, rfl⟩
  have hL64 : L ≤ 64 := by rw [hL]; exact bitLenAux_le 64 u
  obtain ⟨G, hG⟩ : ∃ G, G = groupsZ u := ⟨_, rfl⟩
  have hGL : (max 1 (((L : Int) + 7 - 1) / 7)) = (G : Int) := by rw [hG, groupsZ, ← hL]; omega
  have hG10 : 1 ≤ G ∧ G ≤ 10 := by rw [hG, groupsZ, ← hL]; omega
  obtain ⟨hG1, hG2⟩ := hG10
  rw [← hL]
  have HG := Lib.hid hG
  have HL := Lib.hid hL
  have HGL := Lib.hid hGL
  clear hG hL hGL
  go_wp2_with fail
  rw [HGL.out]
  clear HGL HL hL64
  obtain ⟨i0, hi0, hz0, hz1, hz2⟩ := info_parts Tryd.info5
  go_loopw [0, 7, 8, 9, 25] (fun v _ _ _ i wr => ∃ k : Nat, k ≤ G ∧ i = .int .i64 k ∧ Below w1.heap.size w1 wr ∧ ((k = 0 ∧ v = .slice A n n) ∨ (0 < k ∧ wr.ownsRow w1.heap.size 5 1 v (n + k) ((bs ++ (List.range k).map (byteI u G)).map (Value.int .u8)))))
    (fun _ _ _ _ i _ => G - (intOf i).toNat)
  case atStart => exact ⟨0, Nat.zero_le _, rfl, Below.refl _ _, .inl ⟨rfl, rfl⟩⟩
  case round =>
    obtain ⟨k, hk, rfl, hB, hv⟩ := hrel
    by_cases hlt : k < G
    · rcases hv with ⟨rfl, rfl⟩ | ⟨hk0, hown⟩
      · have ha := byte_and u (G - 1)
        obtain ⟨y, hy⟩ : ∃ y, y = u / 2 ^ (7 * (G - 1)) % 128 := ⟨_, rfl⟩
        rw [← hy] at ha
        have hyl : y < 128 := by omega
        have ho := byte_or y hyl
        by_cases hmore : 0 + 1 < G
        · have HBY := Lib.hid (show byteI u G 0 = (y : Int) + 128 by rw [byteI_more hmore, hy]; rfl)
          clear hy
          have hG1' : (1 : Int) < (G : Int) := by omega
          next =>
            go_wp2_with (at_builtin; refine wpList_append_grows _ rfl _ _ 25 rfl 5 i0 (.int .u8 0) 1 1 Tryd.underlying25 hi0 hz0 hz1 hz2 rfl (by decide) A n n (bs.map (Value.int .u8)) rfl ?a1 ?a2 ?a3 ⟨wr.heap.size, 0, none⟩ 1 1 [.int .u8 ((y : Int) + 128)] rfl rfl ?a4 ?a5 ?a6 ?a7 ?a8 ?_)
            case a1 => intro h; rcases hA with hA | ⟨b, off, hA, _⟩; (simp at hA; subst hA; have := HZ.out; simp at this; omega); (rw [h] at hA; cases hA)
            case a2 => have := HZ.out; simp; omega
            case a3 => exact ((hA.keep (Nat.le_refl _) hB).keep (Nat.le_refl _) (bpush (Below.refl _ _) _)).adds
            case a4 => intro j u hj; match j, hj with | 0, hj => simp at hj; subst hj; simp [Addr.add]
            case a5 => intro u hu; simp at hu; subst hu; rfl
            case a6 => omega
            case a7 => unfold maxLen; omega
            case a8 => omega
            intro v' w2 hown' hgrow
            have hB' : Below w1.heap.size w1 w2 := (bpush hB _).grown hgrow (by have := hB.size; simp; omega) (fun k hk => by cases hk)
            have hown2 := owns_lower (base' := w1.heap.size) hown' (by have := hB.size; simp; omega)
            clear hown' hgrow hB
            go_wp2
            go_roundw
            case rel => exact ⟨0 + 1, by omega, by go_num, hB', .inr ⟨by omega, by simpa [HBY.out] using hown2⟩⟩
            case measure => first | (simp [intOf]; done) | (simp [intOf]; omega)
        · have HBY := Lib.hid (show byteI u G 0 = (y : Int) by rw [byteI_last hmore, hy]; rfl)
          clear hy
          have hG1' : (G : Int) ≤ 1 := by omega
          next =>
            go_wp2_with (at_builtin; refine wpList_append_grows _ rfl _ _ 25 rfl 5 i0 (.int .u8 0) 1 1 Tryd.underlying25 hi0 hz0 hz1 hz2 rfl (by decide) A n n (bs.map (Value.int .u8)) rfl ?b1 ?b2 ?b3 ⟨wr.heap.size, 0, none⟩ 1 1 [.int .u8 (y : Int)] rfl rfl ?b4 ?b5 ?b6 ?b7 ?b8 ?_)
            case b1 => intro h; rcases hA with hA | ⟨b, off, hA, _⟩; (simp at hA; subst hA; have := HZ.out; simp at this; omega); (rw [h] at hA; cases hA)
            case b2 => have := HZ.out; simp; omega
            case b3 => exact ((hA.keep (Nat.le_refl _) hB).keep (Nat.le_refl _) (bpush (Below.refl _ _) _)).adds
            case b4 => intro j u hj; match j, hj with | 0, hj => simp at hj; subst hj; simp [Addr.add]
            case b5 => intro u hu; simp at hu; subst hu; rfl
            case b6 => omega
            case b7 => unfold maxLen; omega
            case b8 => omega
            intro v' w2 hown' hgrow
            have hB' : Below w1.heap.size w1 w2 := (bpush hB _).grown hgrow (by have := hB.size; simp; omega) (fun k hk => by cases hk)
            have hown2 := owns_lower (base' := w1.heap.size) hown' (by have := hB.size; simp; omega)
            clear hown' hgrow hB
            go_wp2
            go_roundw
            case rel => exact ⟨0 + 1, by omega, by go_num, hB', .inr ⟨by omega, by simpa [HBY.out] using hown2⟩⟩
            case measure => first | (simp [intOf]; done) | (simp [intOf]; omega)
      · have ha := byte_and u (G - 1 - k)
        obtain ⟨y, hy⟩ : ∃ y, y = u / 2 ^ (7 * (G - 1 - k)) % 128 := ⟨_, rfl⟩
        rw [← hy] at ha
        have hyl : y < 128 := by omega
        have ho := byte_or y hyl
        by_cases hmore : k + 1 < G
        · have HBY := Lib.hid (show byteI u G k = (y : Int) + 128 by rw [byteI_more hmore, hy])
          clear hy
          next =>
            go_wp2_with (at_builtin; refine wpList_append_own _ rfl _ _ 25 rfl w1.heap.size 5 i0 (.int .u8 0) 1 1 Tryd.underlying25 hi0 hz0 hz1 hz2 rfl (by decide) _ _ _ rfl (hown.alloc _) ⟨wr.heap.size, 0, none⟩ 1 1 [.int .u8 ((y : Int) + 128)] rfl rfl ?c1 ?c2 ?c3 ?c4 ?c5 ?_)
            case c1 => intro j u hj; match j, hj with | 0, hj => simp at hj; subst hj; simp [Addr.add]
            case c2 => intro u hu; simp at hu; subst hu; rfl
            case c3 => unfold maxLen; omega
            case c4 => omega
            case c5 => have := hB.size; simp; omega
            intro v' w2 hown' hgrow _
            have hB' : Below w1.heap.size w1 w2 := (bpush hB _).grown hgrow (by have := hB.size; simp; omega) (fun k hk => (hown.lt k hk).1)
            have hown2 : w2.ownsRow w1.heap.size 5 1 v' (n + (k + 1)) ((bs ++ (List.range (k + 1)).map (byteI u G)).map (Value.int .u8)) := by
              rw [List.range_succ, ← Nat.add_assoc]; simpa [HBY.out] using hown'
            clear hown' hgrow hB hown
            go_wp2
            go_roundw
            case rel => exact ⟨k + 1, by omega, by go_num, hB', .inr ⟨by omega, hown2⟩⟩
            case measure => first | (simp [intOf]; done) | (simp [intOf]; omega)
        · have HBY := Lib.hid (show byteI u G k = (y : Int) by rw [byteI_last hmore, hy])
          clear hy
          next =>
            go_wp2_with (at_builtin; refine wpList_append_own _ rfl _ _ 25 rfl w1.heap.size 5 i0 (.int .u8 0) 1 1 Tryd.underlying25 hi0 hz0 hz1 hz2 rfl (by decide) _ _ _ rfl (hown.alloc _) ⟨wr.heap.size, 0, none⟩ 1 1 [.int .u8 (y : Int)] rfl rfl ?d1 ?d2 ?d3 ?d4 ?d5 ?_)
            case d1 => intro j u hj; match j, hj with | 0, hj => simp at hj; subst hj; simp [Addr.add]
            case d2 => intro u hu; simp at hu; subst hu; rfl
            case d3 => unfold maxLen; omega
            case d4 => omega
            case d5 => have := hB.size; simp; omega
            intro v' w2 hown' hgrow _
            have hB' : Below w1.heap.size w1 w2 := (bpush hB _).grown hgrow (by have := hB.size; simp; omega) (fun k hk => (hown.lt k hk).1)
            have hown2 : w2.ownsRow w1.heap.size 5 1 v' (n + (k + 1)) ((bs ++ (List.range (k + 1)).map (byteI u G)).map (Value.int .u8)) := by
              rw [List.range_succ, ← Nat.add_assoc]; simpa [HBY.out] using hown'
            clear hown' hgrow hB hown
            go_wp2
            go_roundw
            case rel => exact ⟨k + 1, by omega, by go_num, hB', .inr ⟨by omega, hown2⟩⟩
            case measure => first | (simp [intOf]; done) | (simp [intOf]; omega)
    · rcases hv with ⟨rfl, rfl⟩ | ⟨hk0, hown⟩
      · omega
      · have hkG : k = G := by omega
        subst hkG
        have hu' : encV v = (List.range k).map (byteI u k) := by
          unfold encV; rw [HU.out, Int.toNat_natCast]; unfold encI; rw [← HG.out]
        have Hu' := Lib.hid hu'
        clear hu'
        go_wp2
        go_ret
        exact MadeB.of hB (by rw [Hu'.out]; exact hown) (by omega)
end Go.Proofs.YthogafecplhckaaDoor
namespace Go.Proofs.YthogafecplhckaaDoor
open Go.RowKit
set_option linter.unusedSimpArgs false
/-- A text's bytes. -/
def sB (s : ByteArray) : List Int := s.data.toList.map fun b => (b.toNat : Int)
theorem sB_length (s : ByteArray) : (sB s).length = s.size := by simp [sB]
theorem strCells_sB (s : ByteArray) : Lib.strCells s = (sB s).map (Value.int .u8) := by simp [Lib.strCells, sB]
theorem sB_bytes (s : ByteArray) : bytes (sB s) := by
  intro x hx
  simp only [sB, List.mem_map] at hx
  obtain ⟨b, _, rfl⟩ := hx
  have := b.toNat_lt
  omega
set_option maxRecDepth 100000 in
set_option maxHeartbeats 1000000 in
theorem text_any (A : Option Addr) (n c : Nat) (bs : List Int) (s : ByteArray) (w : World) (hA : Row w A (bs.map (Value.int .u8))) (hn : n ≤ 1000000) (hz : n = bs.length) (hnc : n ≤ c) (hs : s.size ≤ 1000000) :
    Calls Tryd.prog 41 #[.slice A n c, .string s] w (MadeB w (bs ++ encV s.size ++ sB s)) := by
  have HZ := Lib.hid hz
  clear hz
  obtain ⟨i0, hi0, hz0, hz1, hz2⟩ := info_parts Tryd.info5
  go_enter Tryd.func41, Tryd.ntmps41
  go_wp2_with fail
  refine (int_any A n c bs _ _ hA hn HZ.out hnc (by omega) (by omega)).mono ?_
  rintro e w1 ⟨g, cap, rfl, hcap, hown, hB⟩
  obtain ⟨m, hm⟩ : ∃ m, m = (bs ++ encV s.size).length := ⟨_, rfl⟩
  have hm2 : m ≤ 1000010 := by
    rw [hm, List.length_append, encV, encI_length, ← HZ.out]; have := groups_bd (foldZ s.size).toNat; omega
  have hm1 : 1 ≤ m := by
    rw [hm, List.length_append, encV, encI_length, ← HZ.out]; have := groups_bd (foldZ s.size).toNat; omega
  rw [← hm] at hcap hown ⊢
  clear hm
  go_wp2_with (at_builtin; refine Lib.wpList_append_own_string _ rfl _ _ 25 9 rfl w.heap.size 5 i0 Tryd.underlying25 Tryd.underlying9 hi0 hz0 hz1 hz2 _ _ _ rfl hown s rfl ?h1 ?h2 ?h3 ?_)
  case h1 => unfold maxLen; omega
  case h2 => omega
  case h3 => exact hB.size
  intro v' w2 hown' hgrow _
  have hB' : Below w.heap.size w w2 := hB.grown hgrow hB.size (fun k hk => (hown.lt k hk).1)
  have hown2 : w2.ownsRow w.heap.size 5 1 v' (m + s.size) ((bs ++ encV s.size ++ sB s).map (Value.int .u8)) := by simpa [strCells_sB] using hown'
  have HP := Lib.hid (MadeB.of hB' hown2 (show 0 < m + s.size by omega))
  clear hown hown' hown2 hgrow hB hB'
  go_wp2
  go_ret
  exact HP.out
/-- A reader whose bytes are left. -/
def Rd (w : World) (rb : Nat) (bs : List Int) : Prop :=
  ∃ A n c, w.cell? ⟨rb, 0, none⟩ = some (.slice A n c) ∧ n = bs.length ∧ n ≤ c ∧ n ≤ 1000000 ∧ (∀ o, w.frozen? ⟨rb, o, none⟩ = false) ∧
    (bs = [] ∨ ∃ b off, A = some ⟨b, off, none⟩ ∧ b ≠ rb ∧ ∀ j u, (bs.map (Value.int .u8))[j]? = some u → w.cell? ⟨b, off + j, none⟩ = some u)
theorem Rd.keep {w w' : World} {rb : Nat} {bs : List Int} (h : Rd w rb bs) (hb : Below w.heap.size w w') : Rd w' rb bs := by
  obtain ⟨A, n, c, h1, h2, h3, h4, h5, h6⟩ := h
  obtain ⟨hc, hf⟩ := bcell hb
  have hl := lt_of_cell h1
  refine ⟨A, n, c, (hc _ _ hl).trans h1, h2, h3, h4, fun o => (hf _ _ hl).trans (h5 o), ?_⟩
  rcases h6 with h6 | ⟨b, off, h7, h8, h9⟩
  · exact .inl h6
  · exact .inr ⟨b, off, h7, h8, fun j u hu => (hc _ _ (lt_of_cell (h9 j u hu))).trans (h9 j u hu)⟩
theorem Rd.lt {w : World} {rb : Nat} {bs : List Int} (h : Rd w rb bs) : rb < w.heap.size := by
  obtain ⟨A, n, c, h1, _⟩ := h; exact lt_of_cell h1
def OpenPost (w : World) (bs : List Int) (e : Ending) (w' : World) : Prop :=
  ∃ rb, e = .returned (.pointer (some ⟨rb, 0, none⟩)) ∧ w.heap.size ≤ rb ∧ Rd w' rb bs ∧ Below w.heap.size w w'
set_option maxRecDepth 100000 in
set_option maxHeartbeats 1000000 in
theorem open_some (b off n c : Nat) (bs : List Int) (w : World) (hA : Row w (some ⟨b, off, none⟩) (bs.map (Value.int .u8))) (hn : n ≤ 1000000) (hz : n = bs.length) (hpos : 0 < n) :
    Calls Tryd.prog 42 #[.slice (some ⟨b, off, none⟩) n c] w (OpenPost w bs) := by
  have HZ := Lib.hid hz
  clear hz
  obtain ⟨i0, hi0, hz0, hz1, hz2⟩ := info_parts Tryd.info5
  go_enter Tryd.func42, Tryd.ntmps42
  go_wp2_with (at_builtin; refine wpList_append_own _ rfl _ _ 25 rfl w.heap.size 5 i0 (.int .u8 0) 1 1 Tryd.underlying25 hi0 hz0 hz1 hz2 rfl (by decide) (.slice none 0 0) 0 [] rfl (World.ownsRow_nil _ _ _ _) ⟨b, off, none⟩ n c (bs.map (Value.int .u8)) rfl ?h1 ?h2 ?h3 ?h4 ?h5 ?h6 ?_)
  case h1 => have := HZ.out; simp; omega
  case h2 => exact hA.adds _ rfl
  case h3 => intro u hu; simp at hu; obtain ⟨x, _, rfl⟩ := hu; rfl
  case h4 => unfold maxLen; omega
  case h5 => omega
  case h6 => exact Nat.le_refl _
  intro v' w1 hown hgrow _
  have hB : Below w.heap.size w w1 := (Below.refl _ _).grown hgrow (Nat.le_refl _) (by simp [Value.ownBlock])
  obtain ⟨g, cap, rfl, hcap, hrow⟩ := Row.of_own hown hpos
  have hg : g < w1.heap.size := by
    rcases hrow with h | ⟨b', off', he, hc⟩
    · have := HZ.out; simp at h; subst h; simp at this; omega
    · cases he; exact (hown.lt g rfl).2
  have hrow' := hrow.keep (Nat.le_refl _) (bpush (Below.refl _ _) (.cells #[.slice (some ⟨g, 0, none⟩) n cap] 116))
  have HP : Hid (OpenPost w bs (.returned (.pointer (some ⟨w1.heap.size, 0, none⟩))) (w1.alloc (.cells #[.slice (some ⟨g, 0, none⟩) n cap] 116))) := by
    refine ⟨_, rfl, hB.size, ⟨some ⟨g, 0, none⟩, n, cap, by simp, HZ.out, hcap, hn, fun o => by simp, ?_⟩, bpush hB _⟩
    rcases hrow' with h | ⟨b', off', he, hc⟩
    · exact .inl (by simpa using h)
    · cases he; exact .inr ⟨g, 0, rfl, by omega, hc⟩
  clear hown hgrow hB hrow hrow'
  go_wp2
  go_ret
  exact HP.out
set_option maxRecDepth 100000 in
set_option maxHeartbeats 1000000 in
theorem open_none (w : World) :
    Calls Tryd.prog 42 #[.slice none 0 0] w (OpenPost w []) := by
  obtain ⟨i0, hi0, hz0, hz1, hz2⟩ := info_parts Tryd.info5
  have HP : Hid (OpenPost w [] (.returned (.pointer (some ⟨w.heap.size, 0, none⟩))) (w.alloc (.cells #[.slice none 0 0] 116))) :=
    ⟨_, rfl, Nat.le_refl _, ⟨none, 0, 0, by simp, rfl, Nat.le_refl _, by omega, fun o => by simp, .inl rfl⟩, bpush (Below.refl _ _) _⟩
  go_enter Tryd.func42, Tryd.ntmps42
  go_wp2_with (at_builtin; refine wpList_append_own_none rfl _ _ 25 rfl w.heap.size 5 i0 1 Tryd.underlying25 hi0 (.slice none 0 0) 0 [] rfl (World.ownsRow_nil _ _ _ _) rfl ?_)
  go_ret
  exact HP.out
theorem open_any (A : Option Addr) (n c : Nat) (bs : List Int) (w : World) (hA : Row w A (bs.map (Value.int .u8))) (hn : n ≤ 1000000) (hz : n = bs.length) (hpos : 0 < n) :
    Calls Tryd.prog 42 #[.slice A n c] w (OpenPost w bs) := by
  obtain ⟨b, off, rfl⟩ := hA.head (by omega)
  exact open_some b off n c bs w hA hn hz hpos
/-- What a reading call leaves of a reader. -/
def ReadPost (w : World) (rb : Nat) (v : Value) (err : Int) (bs : List Int) (e : Ending) (w' : World) : Prop :=
  e = .returned (.tuple #[v, .int .i64 err]) ∧ Rd w' rb bs ∧ w.grownBy w' (some rb)
theorem grown_refl (w : World) (row : Option Nat) : w.grownBy w row := World.grownBy.refl w row
theorem Rd.put {w : World} {rb : Nat} {bs cs : List Int} {A : Option Addr} {n c : Nat} (h : Rd w rb bs) (hn : n = cs.length) (hnc : n ≤ c) (hn2 : n ≤ 1000000)
    (hA : cs = [] ∨ ∃ b off, A = some ⟨b, off, none⟩ ∧ b ≠ rb ∧ ∀ j u, (cs.map (Value.int .u8))[j]? = some u → w.cell? ⟨b, off + j, none⟩ = some u) :
    Rd (w.setCell ⟨rb, 0, none⟩ (.slice A n c)) rb cs ∧ w.grownBy (w.setCell ⟨rb, 0, none⟩ (.slice A n c)) (some rb) := by
  obtain ⟨A0, n0, c0, h1, _, _, _, h5, _⟩ := h
  refine ⟨⟨A, n, c, World.cell?_setCell_same' w _ _ (by rw [h1]; rfl), hn, hnc, hn2, fun o => by rw [World.frozen?_setCell]; exact h5 o, ?_⟩, ?_⟩
  · rcases hA with hA | ⟨b, off, h7, h8, h9⟩
    · exact .inl hA
    · exact .inr ⟨b, off, h7, h8, fun j u hu => (World.cell?_setCell_other w _ _ _ (fun e => h8 (by have := congrArg Addr.block e; simpa using this.symm))).trans (h9 j u hu)⟩
  · exact ⟨rfl, rfl, rfl, by simp [World.setCell], fun i hi hne => Below.heap_setCell w _ _ i (fun e => hne (by rw [e]))⟩
set_option maxRecDepth 100000 in
set_option maxHeartbeats 1000000 in
theorem rint_bad (rb : Nat) (bs : List Int) (lo hi : Int) (w : World) (hR : Rd w rb bs) (hb : bytes bs) (v : Int) (l : Nat) (hp : numP bs = (v, l)) (hbad : l = 0 ∨ v < lo ∨ hi < v) :
    Calls Tryd.prog 45 #[.pointer (some ⟨rb, 0, none⟩), .int .i64 lo, .int .i64 hi] w (ReadPost w rb (.int .i64 0) 11 bs) := by
  have hR' := Lib.hid hR
  obtain ⟨A, n, c, h1, h2, h3, h4, h5, h6⟩ := hR
  have H2 := Lib.hid h2
  have HP := Lib.hid hp
  have HB := Lib.hid hb
  have hrow : Row w A (bs.map (Value.int .u8)) := by
    rcases h6 with rfl | ⟨b, off, h7, h8, h9⟩
    · exact .inl rfl
    · exact .inr ⟨b, off, h7, h9⟩
  clear h2 hp hb h6
  go_enter Tryd.func45, Tryd.ntmps45
  go_wp2_with fail
  refine (number_any A n c bs w hrow (by omega) H2.out HB.out v l HP.out).mono ?_
  rintro e w1 ⟨rfl, rfl⟩
  by_cases hl : l = 0
  · subst hl
    go_wp2
    go_ret2
    exact ⟨rfl, hR'.out, grown_refl _ _⟩
  · have hl' : (1 : Int) ≤ (l : Int) := by omega
    have hl2 : ((l : Int) == 0) = false := by simp; omega
    by_cases h7 : v < lo
    · go_wp2
      go_ret2
      exact ⟨rfl, hR'.out, grown_refl _ _⟩
    · have h8 : hi < v := by omega
      go_wp2
      go_ret2
      exact ⟨rfl, hR'.out, grown_refl _ _⟩
theorem numP_len {bs : List Int} {v : Int} {l : Nat} (h : numP bs = (v, l)) : l ≤ bs.length ∧ (0 < l → 0 < bs.length) ∧ -9223372036854775808 ≤ v ∧ v ≤ 9223372036854775807 := by
  unfold numP at h
  cases hn : numAux 0 0 bs with
  | none => rw [hn] at h; simp only [Prod.mk.injEq] at h; omega
  | some p =>
    obtain ⟨u, k⟩ := p
    have := num_le bs 0 0 u k hn
    rw [hn] at h
    simp only [Prod.mk.injEq] at h
    have hb := unfold_bd (u := (u : Int)) (by omega) (by omega)
    rw [h.1] at hb
    omega
set_option maxRecDepth 100000 in
set_option maxHeartbeats 1000000 in
theorem rint_good (rb : Nat) (bs : List Int) (lo hi : Int) (w : World) (hR : Rd w rb bs) (hb : bytes bs) (v : Int) (l : Nat) (hp : numP bs = (v, l)) (hl : 0 < l) (hv1 : lo ≤ v) (hv2 : v ≤ hi) :
    Calls Tryd.prog 45 #[.pointer (some ⟨rb, 0, none⟩), .int .i64 lo, .int .i64 hi] w (ReadPost w rb (.int .i64 v) 0 (bs.drop l)) := by
  have hR' := Lib.hid hR
  obtain ⟨A, n, c, h1, h2, h3, h4, h5, h6⟩ := hR
  have H2 := Lib.hid h2
  have HP := Lib.hid hp
  have HB := Lib.hid hb
  obtain ⟨hln, hl0, -, -⟩ := numP_len hp
  have hfz := h5 0
  rcases h6 with rfl | ⟨b, off, rfl, h8, h9⟩
  · simp at hl0; omega
  have hrow : Row w (some ⟨b, off, none⟩) (bs.map (Value.int .u8)) := .inr ⟨b, off, rfl, h9⟩
  have hln' : l ≤ n := by omega
  have hl2 : ((l : Int) == 0) = false := by simp; omega
  have h9' := Lib.hid h9
  clear h2 hp hb h5 h9 hl0 hln
  by_cases hcl : c = l
  · have hQ := hR'.out.put (cs := bs.drop l) (A := some ⟨b, off, none⟩) (n := 0) (c := 0) (by rw [List.length_drop, ← H2.out]; omega) (by omega) (by omega) (.inl (List.drop_of_length_le (by have := H2.out; omega)))
    have HQ := Lib.hid hQ
    subst hcl
    clear hQ
    go_enter Tryd.func45, Tryd.ntmps45
    go_wp2_with fail
    refine (number_any _ n c bs w hrow (by omega) H2.out HB.out v c HP.out).mono ?_
    rintro e w1 ⟨rfl, rfl⟩
    go_wp2
    go_ret2
    exact ⟨rfl, HQ.out.1, HQ.out.2⟩
  · have hQ := hR'.out.put (cs := bs.drop l) (A := some ⟨b, off + l, none⟩) (n := n - l) (c := c - l) (by rw [List.length_drop, ← H2.out]) (by omega) (by omega)
      (.inr ⟨b, off + l, rfl, h8, fun j u hu => by
        have := h9'.out (l + j) u (by rw [List.getElem?_map, List.getElem?_drop] at hu; rw [List.getElem?_map]; exact hu)
        rwa [← Nat.add_assoc] at this⟩)
    have HQ := Lib.hid hQ
    clear hQ
    go_enter Tryd.func45, Tryd.ntmps45
    go_wp2_with fail
    refine (number_any _ n c bs w hrow (by omega) H2.out HB.out v l HP.out).mono ?_
    rintro e w1 ⟨rfl, rfl⟩
    go_wp2
    go_ret2
    exact ⟨rfl, HQ.out.1, HQ.out.2⟩
end Go.Proofs.YthogafecplhckaaDoor
namespace Go.Proofs.YthogafecplhckaaDoor
open Go.RowKit
set_option linter.unusedSimpArgs false
set_option maxRecDepth 100000 in
set_option maxHeartbeats 1000000 in
theorem rtext_good (rb : Nat) (bs : List Int) (hi : Int) (w : World) (hR : Rd w rb bs) (hb : bytes bs) (t l : Nat) (hp : numP bs = ((t : Int), l)) (hl : 0 < l) (hv2 : (t : Int) ≤ hi) (hlen : l + t ≤ bs.length) :
    Calls Tryd.prog 75 #[.pointer (some ⟨rb, 0, none⟩), .int .i64 hi] w (ReadPost w rb (.string (strOfNums ((bs.drop l).take t))) 0 (bs.drop (l + t))) := by
  have hR' := Lib.hid hR
  obtain ⟨A, n, c, h1, h2, h3, h4, h5, h6⟩ := hR
  have H2 := Lib.hid h2
  have HP := Lib.hid hp
  have HB := Lib.hid hb
  have hfz := h5 0
  rcases h6 with rfl | ⟨b, off, rfl, h8, h9⟩
  · simp at hlen; omega
  have hrow : Row w (some ⟨b, off, none⟩) (bs.map (Value.int .u8)) := .inr ⟨b, off, rfl, h9⟩
  have hln' : l + t ≤ n := by omega
  have hl2 : ((l : Int) == 0) = false := by simp; omega
  have h9' := Lib.hid h9
  have hxl : ((bs.drop l).take t).length = t := by rw [List.length_take, List.length_drop]; omega
  have hxc : ∀ i, i < t → w.cell? ⟨b, off + l + i, none⟩ = some (.int .u8 (((bs.drop l).take t).getD i 0)) := by
    intro i hi
    have e : ((bs.drop l).take t).getD i 0 = bs[l + i] := by
      rw [List.getD_eq_getElem?_getD, List.getElem?_take_of_lt hi, List.getElem?_drop, List.getElem?_eq_getElem (by omega)]; rfl
    rw [e, Nat.add_assoc]
    exact h9 (l + i) _ (by rw [List.getElem?_map, List.getElem?_eq_getElem (by omega)]; rfl)
  clear h2 hp hb h5 h9 hlen
  by_cases hcl : c = l
  · have ht0 : t = 0 := by omega
    subst ht0 hcl
    have hxc' : ∀ i, i < 0 → w.cell? ⟨b, off + i, none⟩ = some (.int .u8 (((bs.drop c).take 0).getD i 0)) := fun i hi => absurd hi (by omega)
    have hnc : n = c := by omega
    have HQ := Lib.hid (hR'.out.put (cs := bs.drop (c + 0)) (A := some ⟨b, off, none⟩) (n := 0) (c := 0) (by rw [List.length_drop, ← H2.out]; omega) (by omega) (by omega) (.inl (List.drop_of_length_le (by have := H2.out; omega))))
    have hcv := run_convert_bytes_arg (P := Tryd.prog) w 25 5 Tryd.underlying25 Tryd.underlying5 b off 0 0 _ hxl hxc' 9 Tryd.underlying9
    obtain ⟨s, hs⟩ : ∃ s, s = strOfNums ((bs.drop c).take 0) := ⟨_, rfl⟩
    rw [← hs] at hcv ⊢
    clear hs hxl hxc hxc' hnc
    go_enter Tryd.func75, Tryd.ntmps75
    go_wp2_with fail
    refine (number_any _ n c bs w hrow (by omega) H2.out HB.out _ c HP.out).mono ?_
    rintro e w1 ⟨rfl, rfl⟩
    go_wp2
    go_ret2
    exact ⟨rfl, HQ.out.1, HQ.out.2⟩
  · by_cases hct : c = l + t
    · have HQ := Lib.hid (hR'.out.put (cs := bs.drop (l + t)) (A := some ⟨b, off, none⟩) (n := 0) (c := 0) (by rw [List.length_drop, ← H2.out]; omega) (by omega) (by omega) (.inl (List.drop_of_length_le (by have := H2.out; omega))))
      have hcv := run_convert_bytes_arg (P := Tryd.prog) w 25 5 Tryd.underlying25 Tryd.underlying5 b (off + l) t t _ hxl hxc 9 Tryd.underlying9
      obtain ⟨s, hs⟩ : ∃ s, s = strOfNums ((bs.drop l).take t) := ⟨_, rfl⟩
      rw [← hs] at hcv ⊢
      subst hct
      clear hs hxl hxc
      go_enter Tryd.func75, Tryd.ntmps75
      go_wp2_with fail
      refine (number_any _ n _ bs w hrow (by omega) H2.out HB.out _ l HP.out).mono ?_
      rintro e w1 ⟨rfl, rfl⟩
      go_wp2
      go_ret2
      exact ⟨rfl, HQ.out.1, HQ.out.2⟩
    · have HQ := Lib.hid (hR'.out.put (cs := bs.drop (l + t)) (A := some ⟨b, off + (l + t), none⟩) (n := n - (l + t)) (c := c - (l + t)) (by rw [List.length_drop, ← H2.out]) (by omega) (by omega)
      (.inr ⟨b, off + (l + t), rfl, h8, fun j u hu => by
        have := h9'.out (l + t + j) u (by rw [List.getElem?_map, List.getElem?_drop] at hu; rw [List.getElem?_map]; exact hu)
        rwa [← Nat.add_assoc] at this⟩))
      have hcv := run_convert_bytes_arg (P := Tryd.prog) w 25 5 Tryd.underlying25 Tryd.underlying5 b (off + l) t (c - l) _ hxl hxc 9 Tryd.underlying9
      obtain ⟨s, hs⟩ : ∃ s, s = strOfNums ((bs.drop l).take t) := ⟨_, rfl⟩
      rw [← hs] at hcv ⊢
      clear hs hxl hxc
      go_enter Tryd.func75, Tryd.ntmps75
      go_wp2_with fail
      refine (number_any _ n c bs w hrow (by omega) H2.out HB.out _ l HP.out).mono ?_
      rintro e w1 ⟨rfl, rfl⟩
      go_wp2
      go_ret2
      exact ⟨rfl, HQ.out.1, HQ.out.2⟩
end Go.Proofs.YthogafecplhckaaDoor
namespace Go.Proofs.YthogafecplhckaaDoor
open Go.RowKit
set_option linter.unusedSimpArgs false
theorem rint_nil (lo hi : Int) (w : World) : Calls Tryd.prog 45 #[.pointer none, .int .i64 lo, .int .i64 hi] w fun e w' => e = .returned (.tuple #[.int .i64 0, .int .i64 1]) ∧ w = w' := by
  go_enter Tryd.func45, Tryd.ntmps45
  go_wp2
  go_ret2
  exact ⟨rfl, rfl⟩
theorem rtext_nil (hi : Int) (w : World) : Calls Tryd.prog 75 #[.pointer none, .int .i64 hi] w fun e w' => e = .returned (.tuple #[.string ⟨#[]⟩, .int .i64 1]) ∧ w = w' := by
  go_enter Tryd.func75, Tryd.ntmps75
  go_wp2
  go_ret2
  exact ⟨rfl, rfl⟩
theorem al1 : ([] : List Int) ++ encV (-150) = [130, 43] := by decide +kernel
theorem al2 : [130, 43] ++ encV ((⟨#[104, 105]⟩ : ByteArray).size) ++ sB ⟨#[104, 105]⟩ = [130, 43, 4, 104, 105] := by decide +kernel
theorem al3 : numP [130, 43, 4, 104, 105] = (-150, 2) := by decide +kernel
theorem al4 : numP [4, 104, 105] = (((2 : Nat) : Int), 1) := by decide +kernel
theorem bytes5 : bytes [130, 43, 4, 104, 105] := by intro x hx; simp at hx; omega
theorem bytes3 : bytes [4, 104, 105] := by intro x hx; simp at hx; omega
theorem int_of {A : Option Addr} {n c : Nat} {bs : List Int} {v : Int} {xs : List Int} (h : bs ++ encV v = xs) (w : World) (hA : Row w A (bs.map (Value.int .u8))) (hn : n ≤ 1000000) (hz : n = bs.length) (hnc : n ≤ c) (v1 : -9223372036854775808 ≤ v) (v2 : v ≤ 9223372036854775807) :
    Calls Tryd.prog 40 #[.slice A n c, .int .i64 v] w (MadeB w xs) := by subst h; exact int_any A n c bs v w hA hn hz hnc v1 v2
theorem text_of {A : Option Addr} {n c : Nat} {bs : List Int} {s : ByteArray} {xs : List Int} (h : bs ++ encV s.size ++ sB s = xs) (w : World) (hA : Row w A (bs.map (Value.int .u8))) (hn : n ≤ 1000000) (hz : n = bs.length) (hnc : n ≤ c) (hs : s.size ≤ 1000000) :
    Calls Tryd.prog 41 #[.slice A n c, .string s] w (MadeB w xs) := by subst h; exact text_any A n c bs s w hA hn hz hnc hs
theorem MadeB.row {w w' : World} {xs : List Int} {g cap : Nat} (h : w'.ownsRow w.heap.size 5 1 (.slice (some ⟨g, 0, none⟩) xs.length cap) xs.length (xs.map (Value.int .u8))) : Row w' (some ⟨g, 0, none⟩) (xs.map (Value.int .u8)) := by
  rcases Nat.eq_zero_or_pos xs.length with h0 | h0
  · have := List.eq_nil_of_length_eq_zero h0; subst this; exact .inl rfl
  · obtain ⟨g', cap', he, _, hr⟩ := Row.of_own h h0
    cases he; exact hr
theorem grown_cell {w w' : World} {rb b o : Nat} {v : Value} (hg : w.grownBy w' (some rb)) (hb : b ≠ rb) (h : w.cell? ⟨b, o, none⟩ = some v) : w'.cell? ⟨b, o, none⟩ = some v :=
  (World.cell?_of_block (a := ⟨b, o, none⟩) (hg.block b (lt_of_cell h) (fun e => hb (by injection e)))).trans h
theorem zgrown_below {w0 w w' : World} {rb : Nat} (hg : w.grownBy w' (some rb)) (hB : Below w0.heap.size w0 w) (hr : w0.heap.size ≤ rb) : Below w0.heap.size w0 w' :=
  hB.grown hg hB.size (fun k hk => by cases hk; exact hr)
end Go.Proofs.YthogafecplhckaaDoor
