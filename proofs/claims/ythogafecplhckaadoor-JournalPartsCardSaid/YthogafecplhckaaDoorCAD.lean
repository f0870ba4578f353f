/- The remainder, bit by bit; a burst of bits turns the sum. The document's sum. -/
import Derived.Test.YthogafecplhckaaDoorCU
import Derived.Test.YthogafecplhckaaDoorCIZ
namespace Go.Proofs.YthogafecplhckaaDoor
open Go.RowKit
set_option linter.unusedSimpArgs false
set_option linter.unusedVariables false
/-- One bit of the remainder: nothing is fed. -/
def zs (u : Nat) : Nat := u / 2 ^^^ (u % 2) * 2197175160
def zp : Nat → Nat → Nat
  | 0, u => u
  | n + 1, u => zp n (zs u)
theorem xor_div2 (a b : Nat) : (a ^^^ b) / 2 = a / 2 ^^^ b / 2 := by
  have h := Nat.shiftRight_xor_distrib (a := a) (b := b) (i := 1)
  simpa [Nat.shiftRight_eq_div_pow] using h
theorem xor_mod2 (a b : Nat) : (a ^^^ b) % 2 = a % 2 ^^^ b % 2 := by
  have h := Nat.xor_mod_two_pow (a := a) (b := b) (n := 1)
  simpa using h
theorem zs_xor (a b : Nat) : zs (a ^^^ b) = zs a ^^^ zs b := by
  unfold zs
  rw [xor_div2, xor_mod2]
  rcases (show a % 2 = 0 ∨ a % 2 = 1 by omega) with h | h <;> rcases (show b % 2 = 0 ∨ b % 2 = 1 by omega) with k | k <;> rw [h, k]
  · simp
  · simp [Nat.xor_assoc]
  · simp only [Nat.xor_zero, Nat.one_mul, Nat.zero_mul]; ac_rfl
  · have e : ∀ x y p : Nat, x ^^^ y = x ^^^ p ^^^ (y ^^^ p) := by
      intro x y p
      have : x ^^^ p ^^^ (y ^^^ p) = x ^^^ y ^^^ (p ^^^ p) := by ac_rfl
      rw [this, Nat.xor_self, Nat.xor_zero]
    simpa using e (a / 2) (b / 2) 2197175160
theorem zs_two (x : Nat) : zs (2 * x) = x := by
  unfold zs
  rw [show 2 * x / 2 = x by omega, show 2 * x % 2 = 0 by omega]; simp
theorem zp_xor : ∀ (n a b : Nat), zp n (a ^^^ b) = zp n a ^^^ zp n b := by
  intro n
  induction n with
  | zero => intro a b; rfl
  | succ n ih => intro a b; rw [zp, zs_xor, ih, zp, zp]
theorem zp_add : ∀ (n m u : Nat), zp (n + m) u = zp m (zp n u) := by
  intro n
  induction n with
  | zero => intro m u; rw [Nat.zero_add]; rfl
  | succ n ih => intro m u; rw [show n + 1 + m = (n + m) + 1 by omega, zp, ih, zp]
theorem zp_pow : ∀ (n x : Nat), zp n (2 ^ n * x) = x := by
  intro n
  induction n with
  | zero => intro x; simp [zp]
  | succ n ih => intro x; rw [zp, show 2 ^ (n + 1) * x = 2 * (2 ^ n * x) by rw [Nat.pow_succ]; ac_rfl, zs_two, ih]
theorem zs_lt {u : Nat} (h : u < 4294967296) : zs u < 4294967296 := by
  unfold zs
  refine Nat.xor_lt_two_pow (n := 32) (by omega) ?_
  rcases (show u % 2 = 0 ∨ u % 2 = 1 by omega) with h | h <;> rw [h] <;> decide
theorem zp_lt : ∀ (n : Nat) {u : Nat}, u < 4294967296 → zp n u < 4294967296 := by
  intro n
  induction n with
  | zero => intro u h; exact h
  | succ n ih => intro u h; rw [zp]; exact ih (zs_lt h)
theorem xor_eq_zero {a b : Nat} (h : a ^^^ b = 0) : a = b := by
  have : a ^^^ b ^^^ b = 0 ^^^ b := by rw [h]
  rw [Nat.xor_assoc, Nat.xor_self, Nat.xor_zero, Nat.zero_xor] at this
  exact this
theorem zs_pos {u : Nat} (h : u < 4294967296) (h0 : u ≠ 0) : zs u ≠ 0 := by
  intro hz
  unfold zs at hz
  have := xor_eq_zero hz
  rcases (show u % 2 = 0 ∨ u % 2 = 1 by omega) with h2 | h2 <;> rw [h2] at this <;> omega
theorem zp_pos : ∀ (n : Nat) {u : Nat}, u < 4294967296 → u ≠ 0 → zp n u ≠ 0 := by
  intro n
  induction n with
  | zero => intro u _ h; exact h
  | succ n ih => intro u h h0; rw [zp]; exact ih (zs_lt h) (zs_pos h h0)
theorem tab_zp : ∀ r < 16, zp 4 r = tabN.getD r 0 := by decide +kernel
theorem add_xor {q r n : Nat} (h : r < 2 ^ n) : 2 ^ n * q + r = 2 ^ n * q ^^^ r := by
  rw [Nat.two_pow_add_eq_or_of_lt h]
  apply Nat.eq_of_testBit_eq
  intro i
  rw [Nat.testBit_or, Nat.testBit_xor]
  rcases Nat.lt_or_ge i n with hi | hi
  · have : (2 ^ n * q).testBit i = false := by rw [Nat.testBit_two_pow_mul]; simp; omega
    rw [this]; simp
  · have : r.testBit i = false := Nat.testBit_lt_two_pow (Nat.lt_of_lt_of_le h (Nat.pow_le_pow_right (by omega) hi))
    rw [this]; simp
theorem and15_mod (a : Nat) : a &&& 15 = a % 16 := Nat.and_two_pow_sub_one_eq_mod (x := a) (n := 4)
theorem xor_mod16 (a b : Nat) : (a ^^^ b) % 16 = a % 16 ^^^ b % 16 := by
  have h := Nat.xor_mod_two_pow (a := a) (b := b) (n := 4)
  simpa using h
theorem zp4 (u : Nat) : zp 4 u = u / 16 ^^^ tabN.getD (u % 16) 0 := by
  have e : u = 2 ^ 4 * (u / 16) ^^^ u % 16 := by rw [← add_xor (by omega)]; omega
  conv => lhs; rw [e]
  rw [zp_xor, zp_pow, tab_zp _ (by omega)]
theorem step_zp (s h : Nat) : stepN s h = zp 4 (s ^^^ h % 16) := by
  rw [zp4]
  unfold stepN
  rw [xor_div16, and15_mod, xor_mod16, xor_mod16, show h % 16 / 16 = 0 by omega, Nat.xor_zero, show s % 256 % 16 = s % 16 by omega, show h % 16 % 16 = h % 16 by omega]
theorem byte_zp (s b : Nat) (hb : b < 256) : stepN (stepN s b) (b / 16) = zp 8 (s ^^^ b) := by
  rw [step_zp, step_zp]
  have e : zp 4 (2 ^ 4 * (b / 16)) = b / 16 := zp_pow 4 _
  rw [show b / 16 % 16 = b / 16 by omega]
  conv => lhs; rw [← e]
  rw [← zp_xor, ← zp_add, Nat.xor_assoc]
  congr 2
  rw [Nat.xor_comm, ← add_xor (by omega)]; omega
/-- Bytes as one number, the first one lowest. -/
def leN : List Int → Nat
  | [] => 0
  | b :: bs => 256 * leN bs + b.toNat
theorem crc_zp : ∀ (bs : List Int) (s : Nat), bytes bs → crcN s bs = zp (8 * bs.length) (s ^^^ leN bs) := by
  intro bs
  induction bs with
  | nil => intro s _; simp [crcN, zp, leN]
  | cons b bs ih =>
    intro s hb
    have hb0 := hb b (by simp)
    have hb1 : b.toNat < 256 := by omega
    rw [crcN, ih _ (fun x hx => hb x (by simp [hx])), byte_zp _ _ hb1, List.length_cons, show 8 * (bs.length + 1) = 8 + 8 * bs.length by omega, zp_add, leN]
    congr 1
    have e : 256 * leN bs + b.toNat = 2 ^ 8 * leN bs ^^^ b.toNat := add_xor (n := 8) (by omega)
    rw [e, show s ^^^ (2 ^ 8 * leN bs ^^^ b.toNat) = (s ^^^ b.toNat) ^^^ 2 ^ 8 * leN bs by ac_rfl, zp_xor 8 (s ^^^ b.toNat), zp_pow]
theorem leN_append : ∀ (a b : List Int), leN (a ++ b) = leN a + 256 ^ a.length * leN b := by
  intro a
  induction a with
  | nil => intro b; simp [leN]
  | cons x a ih => intro b; rw [List.cons_append, leN, ih, leN, List.length_cons, Nat.pow_succ, Nat.mul_add]; have : 256 * (256 ^ a.length * leN b) = 256 ^ a.length * 256 * leN b := by ac_rfl
                   omega
theorem leN_set : ∀ (bs : List Int) (k : Nat) (h : k / 8 < bs.length), bytes bs → leN (bs.set (k / 8) ((bs[k / 8].toNat ^^^ 2 ^ (k % 8) : Nat) : Int)) = leN bs ^^^ 2 ^ k := by
  intro bs
  induction bs with
  | nil => intro k h; simp at h
  | cons b bs ih =>
    intro k h hb
    have hb0 := hb b (by simp)
    have hb1 : b.toNat < 256 := by omega
    have hx : ∀ n, n < 8 → b.toNat ^^^ 2 ^ n < 256 := fun n hn => Nat.xor_lt_two_pow (n := 8) hb1 (Nat.pow_lt_pow_right (by omega) hn)
    rcases Nat.lt_or_ge k 8 with hk | hk
    · have e : k / 8 = 0 := by omega
      have e2 : k % 8 = k := by omega
      simp only [e, e2, List.set_cons_zero, List.getElem_cons_zero, leN]
      have e3 : 256 * leN bs + b.toNat = 2 ^ 8 * leN bs ^^^ b.toNat := add_xor (n := 8) (by omega)
      have e4 : 256 * leN bs + (b.toNat ^^^ 2 ^ k) = 2 ^ 8 * leN bs ^^^ (b.toNat ^^^ 2 ^ k) := add_xor (n := 8) (hx k hk)
      rw [show (((b.toNat ^^^ 2 ^ k : Nat) : Int)).toNat = b.toNat ^^^ 2 ^ k by omega, e3, e4]; ac_rfl
    · obtain ⟨j, rfl⟩ : ∃ j, k = j + 8 := ⟨k - 8, by omega⟩
      have e : (j + 8) / 8 = j / 8 + 1 := by omega
      have e2 : (j + 8) % 8 = j % 8 := by omega
      simp only [e, e2, List.set_cons_succ, List.getElem_cons_succ, leN]
      rw [ih j (by simp only [e, List.length_cons] at h; omega) (fun x hx => hb x (by simp [hx]))]
      have e3 : ∀ z, 256 * z + b.toNat = 2 ^ 8 * z ^^^ b.toNat := fun z => add_xor (n := 8) (by omega)
      rw [e3, e3, Nat.pow_add]
      have e5 : 2 ^ 8 * (leN bs ^^^ 2 ^ j) = 2 ^ 8 * leN bs ^^^ 2 ^ 8 * 2 ^ j := by
        have h := Nat.shiftLeft_xor_distrib (a := leN bs) (b := 2 ^ j) (i := 8)
        simpa [Nat.shiftLeft_eq, Nat.mul_comm] using h
      rw [e5, Nat.mul_comm (2 ^ j)]; ac_rfl
theorem leN_lt : ∀ (bs : List Int), bytes bs → leN bs < 256 ^ bs.length := by
  intro bs
  induction bs with
  | nil => intro _; simp [leN]
  | cons b bs ih =>
    intro hb
    have := ih (fun x hx => hb x (by simp [hx]))
    have hb0 := hb b (by simp)
    rw [leN, List.length_cons, Nat.pow_succ]; omega
/-- A burst of bits within 32 turns the sum. -/
theorem burst {xs ys : List Int} (hx : bytes xs) (hy : bytes ys) (hl : ys.length = xs.length) {u a : Nat} (h : leN ys = leN xs ^^^ 2 ^ a * u) (hu : u < 4294967296) (h0 : u ≠ 0) (ha : a ≤ 8 * xs.length) (s : Nat) :
    crcN s ys ≠ crcN s xs := by
  rw [crc_zp _ _ hx, crc_zp _ _ hy, hl, h, show s ^^^ (leN xs ^^^ 2 ^ a * u) = (s ^^^ leN xs) ^^^ 2 ^ a * u by ac_rfl, zp_xor]
  intro e
  have e2 : zp (8 * xs.length) (2 ^ a * u) = 0 := by
    have := congrArg (fun t => zp (8 * xs.length) (s ^^^ leN xs) ^^^ t) e
    simp only [Nat.xor_self] at this
    rw [← Nat.xor_assoc, Nat.xor_self, Nat.zero_xor] at this
    exact this
  rw [show 8 * xs.length = a + (8 * xs.length - a) by omega, zp_add, zp_pow] at e2
  exact zp_pos _ hu h0 e2
/-- One bit fed, as the document says. -/
theorem bit_zp (s d : Nat) (hd : d ≤ 1) : (if d = s % 2 then s / 2 else s / 2 ^^^ 2197175160) = zs (s ^^^ d) := by
  unfold zs
  rw [xor_div2, xor_mod2, show d / 2 = 0 by omega, Nat.xor_zero]
  rcases (show s % 2 = 0 ∨ s % 2 = 1 by omega) with h | h <;> rcases (show d = 0 ∨ d = 1 by omega) with rfl | rfl <;> rw [h] <;> simp
theorem zp_snoc (n u : Nat) : zp (n + 1) u = zs (zp n u) := by rw [zp_add]; rfl
theorem bits_snoc (s b k : Nat) : zp (k + 1) (s ^^^ b % 2 ^ (k + 1)) = zs (zp k (s ^^^ b % 2 ^ k) ^^^ b / 2 ^ k % 2) := by
  have e : b % 2 ^ (k + 1) = b % 2 ^ k ^^^ 2 ^ k * (b / 2 ^ k % 2) := by
    rw [Nat.mod_pow_succ, Nat.add_comm, add_xor (Nat.mod_lt _ (Nat.two_pow_pos k)), Nat.xor_comm]
  rw [zp_snoc, e, show s ^^^ (b % 2 ^ k ^^^ 2 ^ k * (b / 2 ^ k % 2)) = (s ^^^ b % 2 ^ k) ^^^ 2 ^ k * (b / 2 ^ k % 2) by ac_rfl, zp_xor, zp_pow]
end Go.Proofs.YthogafecplhckaaDoor
namespace Go.Proofs.YthogafecplhckaaDoor
open Go.RowKit
set_option linter.unusedSimpArgs false
set_option linter.unusedVariables false
set_option maxRecDepth 100000 in
set_option maxHeartbeats 4000000 in
theorem rsum_any (A : Option Addr) (n c : Nat) (bs : List Int) (w : World) (hA : Row w A (bs.map (Value.int .u8))) (hz : n = bs.length) (hn : n ≤ 100000000) (hb : bytes bs) :
    Calls Tryd.prog 64 #[.slice A n c] w fun e w' => e = .returned (.int .u32 (sumI bs)) ∧ w = w' := by
  have HZ := Lib.hid hz
  have HA := Lib.hid hA
  have HBY := Lib.hid hb
  clear hz hA hb
  go_enter Tryd.func64, Tryd.ntmps64
  go_wp2_with fail
  go_loop [3, 4] (fun a i => ∃ (q s : Nat), q ≤ n ∧ s < 4294967296 ∧ i = .int .i64 (q : Int) ∧ a = .int .u32 (s : Int) ∧ Hid (s = crcN 4294967295 (bs.take q))) (fun _ i => n - (intOf i).toNat)
  case atStart => exact ⟨0, 4294967295, by omega, by omega, rfl, rfl, Lib.hid rfl⟩
  case round =>
    obtain ⟨q, s, hq, hs, rfl, rfl, HE⟩ := hrel
    by_cases hlt : q < n
    · have hqz : q < bs.length := by have := HZ.out; omega
      obtain ⟨b, off, hA', c0⟩ := HA.out.cell hqz
      obtain ⟨x, hx⟩ : ∃ x : Nat, x = bs[q].toNat := ⟨_, rfl⟩
      have hxb := HBY.out bs[q] (List.getElem_mem hqz)
      have hx2 : bs[q] = (x : Int) := by rw [hx]; omega
      rw [hx2] at c0
      have hx9 : x < 256 := by omega
      have HX := Lib.hid hx
      subst hA'
      clear hx hx2 hxb
      have hqn : (q : Int) < (n : Int) := by omega
      go_wp2_with fail
      go_loop [3, 5] (fun a i => ∃ (k r : Nat), k ≤ 8 ∧ r < 4294967296 ∧ i = .int .i64 (k : Int) ∧ a = .int .u32 (r : Int) ∧ Hid (r = zp k (s ^^^ x % 2 ^ k))) (fun _ i => 8 - (intOf i).toNat)
      case atStart => exact ⟨0, s, by omega, hs, rfl, rfl, Lib.hid (by simp [zp, Nat.mod_one])⟩
      case round =>
        obtain ⟨k, r, hk, hr, rfl, rfl, HR⟩ := hrel
        by_cases hk8 : k < 8
        · have hk1 : (k : Int) < 8 := by omega
          have hk0 : (0 : Int) ≤ (k : Int) := by omega
          obtain ⟨y, hy⟩ : ∃ y, y = x / 2 ^ k := ⟨_, rfl⟩
          obtain ⟨d, hd⟩ : ∃ d, d = y % 2 := ⟨_, rfl⟩
          have hy9 : y < 256 := by rw [hy]; exact Nat.lt_of_le_of_lt (Nat.div_le_self _ _) hx9
          have e9 : (x : Int) / 2 ^ k = (y : Int) := by rw [hy]; simp
          have e8 : (y : Int) % 2 = (d : Int) := by omega
          have hd1 : d ≤ 1 := by omega
          obtain ⟨l, hl⟩ : ∃ l, l = r % 2 := ⟨_, rfl⟩
          obtain ⟨r2, hr2⟩ : ∃ r2, r2 = r / 2 := ⟨_, rfl⟩
          have e7 : (r : Int) % 2 = (l : Int) := by omega
          have e6 : (r : Int) / 2 = (r2 : Int) := by omega
          have hr29 : r2 < 4294967296 := by omega
          have e5 : bits .xor .u32 (r2 : Int) 2197175160 = ((r2 ^^^ 2197175160 : Nat) : Int) := u32_xor_nat r2 2197175160 (by omega) (by omega)
          obtain ⟨r3, hr3⟩ : ∃ r3, r3 = r2 ^^^ 2197175160 := ⟨_, rfl⟩
          have hr39 : r3 < 4294967296 := by rw [hr3]; exact Nat.xor_lt_two_pow (n := 32) (by omega) (by omega)
          rw [← hr3] at e5
          have hnew : zp (k + 1) (s ^^^ x % 2 ^ (k + 1)) = if d = l then r2 else r3 := by
            rw [bits_snoc, ← HR.out, ← hy, ← hd, ← bit_zp r d hd1, ← hl, ← hr2, ← hr3]
          by_cases hdl : d = l
          · rw [if_pos hdl] at hnew
            have HN := Lib.hid hnew
            have ht : ((d : Int) == (l : Int)) = true := by simp; omega
            have ht2 : ((d : Int) != (l : Int)) = false := by simp; omega
            clear hnew hy hd hl hr2 hr3 hdl e5
            go_wp2_with fail
            go_round
            case rel => exact ⟨k + 1, r2, by omega, hr29, by go_num, rfl, Lib.hid HN.out.symm⟩
            case measure => simp [intOf]; omega
          · rw [if_neg hdl] at hnew
            have HN := Lib.hid hnew
            have ht : ((d : Int) == (l : Int)) = false := by simp; omega
            have ht2 : ((d : Int) != (l : Int)) = true := by simp; omega
            clear hnew hy hd hl hr2 hr3 hdl
            go_wp2_with fail
            go_round
            case rel => exact ⟨k + 1, r3, by omega, hr39, by go_num, rfl, Lib.hid HN.out.symm⟩
            case measure => simp [intOf]; omega
        · have hk1 : ¬ (k : Int) < 8 := by omega
          obtain rfl : k = 8 := by omega
          have HN := Lib.hid (show r = crcN 4294967295 (bs.take (q + 1)) by
            rw [HR.out, take_snoc bs q hqz, crc_snoc, byte_zp _ _ (by rw [← HX.out]; exact hx9), ← HE.out, ← HX.out, show x % 2 ^ 8 = x by omega])
          clear HR
          go_wp2_with fail
          go_round
          case rel => exact ⟨q + 1, r, by omega, hr, by go_num, rfl, HN⟩
          case measure => simp [intOf]; omega
    · have hqn : ¬ (q : Int) < (n : Int) := by omega
      have HN := Lib.hid (show s = crcN 4294967295 bs by rw [HE.out, List.take_of_length_le (by have := HZ.out; omega)])
      clear HE
      go_wp2_with fail
      go_ret
      exact ⟨by unfold sumI; rw [← HN.out]; exact ret_u (by omega), rfl⟩
end Go.Proofs.YthogafecplhckaaDoor
