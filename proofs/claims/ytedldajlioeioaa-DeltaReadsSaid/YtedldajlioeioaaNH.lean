/- The law NibbleJoin: its walk. -/
import Derived.Test.YtedldajlioeioaaNG
import Derived.Maps.AppendAt
namespace Go.Proofs.Ytedldajlioeioaa
open Go.RowKit
set_option linter.unusedSimpArgs false
theorem size16 (n : Nat) : sizeN n 16 = 2 * n := by unfold sizeN; omega
theorem pack16_length (M : List Nat) : (packL M 16).length = 2 * M.length := by rw [packL, packS_length, size16]
theorem pack16_get {M : List Nat} {j : Nat} (h : j < 2 * M.length) : (packL M 16)[j]? = some ((M.getD (j / 2) 0 / 2 ^ (8 * (j % 2)) % 256 : Nat) : Int) := by
  rw [packL, packS_get (by rw [size16]; exact h)]
  congr 2
  unfold byteF
  rw [show min 8 (M.length * 16 - 8 * j) = 8 from by omega]
  rw [numF_of (x := M.getD (j / 2) 0 / 2 ^ (8 * (j % 2))) 8 (fun i hi => ?_)]
  unfold bitL
  rw [show (8 * j + i) / 16 = j / 2 from by omega, show (8 * j + i) % 16 = 8 * (j % 2) + i from by omega, Nat.pow_add, Nat.div_div_eq_div_mul]
theorem pack16_append (M : List Nat) (a : Nat) (ha : a ≤ M.length) : packL M 16 = packL (M.take a) 16 ++ packL (M.drop a) 16 := by
  apply List.ext_getElem?
  intro j
  have h1 : (packL (M.take a) 16).length = 2 * a := by rw [pack16_length, List.length_take]; omega
  have h2 : (packL (M.drop a) 16).length = 2 * (M.length - a) := by rw [pack16_length, List.length_drop]
  rcases Nat.lt_or_ge j (2 * M.length) with h | h
  · rw [pack16_get h]
    rcases Nat.lt_or_ge j (2 * a) with h3 | h3
    · rw [List.getElem?_append_left (by omega), pack16_get (by rw [List.length_take]; omega)]
      rw [List.getD_eq_getElem?_getD, List.getD_eq_getElem?_getD, List.getElem?_take_of_lt (by omega)]
    · rw [List.getElem?_append_right (by omega), h1, pack16_get (by rw [List.length_drop]; omega)]
      rw [List.getD_eq_getElem?_getD, List.getD_eq_getElem?_getD, List.getElem?_drop, show a + (j - 2 * a) / 2 = j / 2 from by omega, show (j - 2 * a) % 2 = j % 2 from by omega]
  · rw [List.getElem?_eq_none (by rw [pack16_length]; exact h), List.getElem?_eq_none (by rw [List.length_append]; omega)]
theorem strOf_append (a b : List Int) : strOfNums (a ++ b) = strOfNums a ++ strOfNums b := by
  apply ByteArray.ext
  simp [strOfNums]
def mod16 (L : List Nat) : List Nat := L.map (· % 65536)
theorem width16 (M : List Nat) (h : ∀ x ∈ M, x < 65536) : widthN M ≤ 16 :=
  (widthN_le (fun x hx => by have := h x hx; omega) 16).2 (fun x hx => by have := h x hx; omega)
theorem mod16_lt (L : List Nat) : ∀ x ∈ mod16 L, x < 65536 := by
  intro x hx; obtain ⟨y, _, rfl⟩ := List.mem_map.1 hx; omega
theorem and_mask16 (x : Nat) (h : x < 18446744073709551616) : bits .and .u64 (x : Int) 65535 = ((x % 65536 : Nat) : Int) := by
  rw [show (65535 : Int) = ((65535 : Nat) : Int) from rfl, u64_and_nat _ _ h (by omega)]
  exact congrArg Int.ofNat (Nat.and_two_pow_sub_one_eq_mod x 16)
theorem u64s_snoc (l : List Nat) (x : Nat) : u64s (l ++ [x]) = u64s l ++ [.int .u64 (x : Int)] := by simp [u64s]
theorem u64s_take (l : List Nat) (k : Nat) : u64s (l.take k) = (u64s l).take k := by simp [u64s]
theorem Row.parts {w : World} {b off : Nat} {zs : List Value} (h : Row w (some ⟨b, off, none⟩) zs) (t : Nat) :
    Row w (some ⟨b, off, none⟩) (zs.take t) ∧ Row w (some ⟨b, off + t, none⟩) (zs.drop t) := by
  rcases h with h | ⟨b', off', he, hc⟩
  · subst h; exact ⟨.inl (by simp), .inl (by simp)⟩
  · cases he
    refine ⟨.inr ⟨b, off, rfl, fun j u hu => ?_⟩, .inr ⟨b, off + t, rfl, fun j u hu => ?_⟩⟩
    · rcases Nat.lt_or_ge j t with h | h
      · exact hc j u (by rw [List.getElem?_take_of_lt h] at hu; exact hu)
      · rw [List.getElem?_eq_none (by rw [List.length_take]; omega)] at hu; cases hu
    · rw [Nat.add_assoc]
      exact hc (t + j) u (by rw [List.getElem?_drop] at hu; exact hu)
/-- The three packs, and the test behind them. -/
def packOf (M : List Nat) (A : Option Addr) (n c : Nat) (w : World) : Prop := Calls Try.prog 18 #[.slice A n c, .int .i64 16] w (Packed w (packL M 16))
theorem pack16_good (A : Option Addr) (n c : Nat) (M : List Nat) (w : World) (hA : Row w A (u64s M)) (hn : n ≤ 65536) (hz : n = M.length) (hs : ∀ x ∈ M, x < 65536) : packOf M A n c w :=
  pack_good A n c M 16 w hA hn hz (fun x hx => by have := hs x hx; omega) (by omega) (width16 M hs)
end Go.Proofs.Ytedldajlioeioaa
