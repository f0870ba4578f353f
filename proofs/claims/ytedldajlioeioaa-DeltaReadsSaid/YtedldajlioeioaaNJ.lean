/- The law NibbleBack: its walk. -/
import Derived.Test.YtedldajlioeioaaNI
import Derived.Laws.BitsLemmas
namespace Go.Proofs.Ytedldajlioeioaa
open Go.ChangeShapes Go.WideShapes Go.Deep Go.RowKit
set_option linter.unusedSimpArgs false
set_option linter.unusedVariables false
variable {H : Type} {enc : TypeId × Value → H} {w : World} {base : Nat} {held : Bool}
theorem bytes_opened {A : Option Addr} {len cap fuel : Nat} {x : DataW H × List MemPlace} (hu : DataW.trod enc Try.prog w base (fun _ => true) held fuel 24 (Value.slice A len cap).cells.toList = some x) :
    ∃ bs : List Int, Row w A (bs.map (Value.int .u8)) ∧ len ≤ cap ∧ cap ≤ maxLen ∧ len = bs.length ∧ bytes bs ∧ (A = none → cap = 0) := by
  rcases open_ints Try.underlying24 Try.underlying5 (by kernel_rfl) hu with ⟨hcs, _⟩ | ⟨x, l, c, zs, hcs, _, hl, hm, hz, _, hcell, hwz⟩
  · simp [Value.cells] at hcs
    obtain ⟨rfl, rfl, rfl⟩ := hcs
    exact ⟨[], .inl rfl, Nat.le_refl _, by simp [maxLen], rfl, by intro x hx; simp at hx, fun _ => rfl⟩
  · simp [Value.cells] at hcs
    obtain ⟨rfl, rfl, rfl⟩ := hcs
    obtain ⟨ys, h1, h2, h3, h4, h5⟩ := row_opened hl hm hz hcell hwz
    exact ⟨ys, h1, h2, h3, h4.symm, fun z hz => by have := bounds_u8 (h5 z hz); omega, fun h => by cases h⟩
theorem packL_bytes (L : List Nat) (W : Nat) : bytes (packL L W) := by
  intro x hx
  obtain ⟨j, _, rfl⟩ := List.mem_map.1 hx
  have := byteF_lt (bitL_le L W) (L.length * W) j
  omega
theorem packL_length (L : List Nat) (W : Nat) : (packL L W).length = sizeN L.length W := by rw [packL, packS_length]
theorem fits8 (n W : Nat) : n * W ≤ 8 * sizeN n W := by unfold sizeN; omega
theorem unp_pack {L : List Nat} {W : Nat} (h : ∀ x ∈ L, x < 2 ^ W) : unp (packL L W) W L.length = L := by
  apply List.ext_getElem
  · simp [unp]
  · intro i h1 h2
    have hg : L.getD i 0 = L[i] := by rw [List.getD_eq_getElem?_getD, List.getElem?_eq_getElem h2]; rfl
    simp only [unp, List.getElem_map, List.getElem_range, packL]
    rw [num_pack (fits8 _ _) h2 (by rw [hg]; exact h _ (List.getElem_mem h2)), hg]
theorem strOf_sz (l : List Int) : (strOfNums l).size = l.length := strOfNums_size l
theorem and7 (m : Int) : ∃ q : Nat, q ≤ 7 ∧ bits .and .i64 m 7 = (q : Int) := by
  refine ⟨(BitVec.ofInt 64 m &&& BitVec.ofInt 64 7).toNat, ?_, ?_⟩
  · rw [BitVec.toNat_and]; exact Nat.and_le_right
  · have h : (BitVec.ofInt 64 m &&& BitVec.ofInt 64 7).toNat ≤ 7 := by rw [BitVec.toNat_and]; exact Nat.and_le_right
    show IntKind.i64.wrap ((BitVec.ofInt 64 m &&& BitVec.ofInt 64 7).toNat : Int) = _
    rw [IntKind.wrap_i64]; omega
theorem conv_zero (D : Option Addr) (c : Nat) (w : World) : Sem.run Try.prog (convert 24 9 (.slice D 0 c)) w = .ok (.string (strOfNums [])) w := by
  cases D with
  | none => exact run_convert_bytes_nil w 24 5 Try.underlying24 Try.underlying5 0 c 9 Try.underlying9
  | some a =>
    have hl : (loadCells a 0).run Try.prog w = .ok (([] : List Int).map (Value.int .u8)).toArray w := by
      have := run_loadCells_list (P := Try.prog) w a [] (fun j v hj => by simp at hj)
      simpa using this
    rw [run_convert_bytes_string w 24 9 5 _ 0 c Try.underlying24 Try.underlying5 Try.underlying9, run_bytesToString w _ 0 c [] hl]
    rfl
theorem conv_any {w : World} {D : Option Addr} {n c : Nat} {xs : List Int} (h : Row w D (xs.map (Value.int .u8))) (hn : n = xs.length) :
    Sem.run Try.prog (convert 24 9 (.slice D n c)) w = .ok (.string (strOfNums xs)) w := by
  rcases h with h | ⟨b, off, rfl, hc⟩
  · simp at h; subst h; subst hn; exact conv_zero D c w
  · exact conv_row (.inr ⟨b, off, rfl, hc⟩) hn
theorem repack {bs : List Int} {W m : Nat} (hb : bytes bs) (hW : 0 < W ∨ m = 0) (hl : bs.length = sizeN m W) (hp : numF (bitB bs) (m * W) (8 * bs.length - m * W) = 0) : packL (unp bs W m) W = bs := by
  rcases Nat.eq_zero_or_pos W with h0 | h0
  · have hm : m = 0 := by omega
    subst h0 hm
    have : bs = [] := List.eq_nil_of_length_eq_zero (by rw [hl]; rfl)
    subst this
    rfl
  · unfold packL
    rw [unp_length]
    refine (again h0 hb hl (unp_length bs W m) (fun j hj => ?_)).2 ?_
    · rw [List.getD_eq_getElem?_getD, List.getElem?_eq_getElem (by rw [unp_length]; exact hj)]
      simp [unp]
    · rw [hl] at hp; exact hp
theorem unp_width (bs : List Int) (W m : Nat) (hW : W ≤ 64) : widthN (unp bs W m) ≤ W := by
  refine (widthN_le (unp_small bs W m hW) W).2 (fun x hx => ?_)
  obtain ⟨j, _, rfl⟩ := List.mem_map.1 hx
  exact numF_lt (bitB_le bs) _ _
theorem unpack_of (A : Option Addr) (n c : Nat) (bs : List Int) (mi : Int) (m W : Nat) (w : World) (hA : Row w A (bs.map (Value.int .u8))) (hz : n = bs.length) (hb : bytes bs) (hn : n ≤ 1000000) (hm : m ≤ 65536) (hW : W ≤ 64)
    (hs : n = sizeN m W) (hp : numF (bitB bs) (m * W) (8 * n - m * W) = 0) (hmi : mi = (m : Int)) :
    Calls Try.prog 44 #[.slice A n c, .int .i64 mi, .int .i64 (W : Nat)] w (Unpacked w (unp bs W m)) := by subst hmi; exact unpack_good A n c bs m W w hA hz hb hn hm hW hs hp
theorem unpack_no (A : Option Addr) (n c : Nat) (bs : List Int) (mi : Int) (m W : Nat) (w : World) (hA : Row w A (bs.map (Value.int .u8))) (hz : n = bs.length) (hb : bytes bs) (hn : n ≤ 1000000) (hm : m ≤ 65536) (hW : W ≤ 64)
    (hs : ¬ (n = sizeN m W ∧ numF (bitB bs) (m * W) (8 * n - m * W) = 0)) (hmi : mi = (m : Int)) :
    Calls Try.prog 44 #[.slice A n c, .int .i64 mi, .int .i64 (W : Nat)] w fun e w' => e = .returned (.tuple #[.slice none 0 0, .int .i64 71]) ∧ w = w' := by subst hmi; exact unpack_wrong A n c bs m W w hA hz hb hn hm hW hs
theorem pack_of (A : Option Addr) (n c : Nat) (L : List Nat) (W : Nat) (w : World) (hA : Row w A (u64s L)) (hn : n ≤ 65536) (hz : n = L.length) (hs : small L) (hW : W ≤ 64) (hw : widthN L ≤ W) {X : Int} (hX : X = (W : Int)) :
    Calls Try.prog 18 #[.slice A n c, .int .i64 X] w (Packed w (packL L W)) := by subst hX; exact pack_good A n c L W w hA hn hz hs hW hw
end Go.Proofs.Ytedldajlioeioaa
