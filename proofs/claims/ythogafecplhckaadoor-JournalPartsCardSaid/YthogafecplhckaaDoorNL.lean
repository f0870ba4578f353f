/- Blocks of entries behind one another: plain facts. -/
import Derived.Test.YthogafecplhckaaDoorNK
import Derived.Test.YthogafecplhckaaDoorCEH
import Derived.Test.YthogafecplhckaaDoorCIZ
namespace Go.Proofs.YthogafecplhckaaDoor
open Go.RowKit
set_option linter.unusedSimpArgs false
set_option linter.unusedVariables false
theorem num_more : ∀ (cs : List Int) (i u v k : Nat) (rest : List Int), numAux i u cs = some (v, k) → numAux i u (cs ++ rest) = some (v, k) := by
  intro cs
  induction cs with
  | nil => intro i u v k rest h; simp [numAux] at h
  | cons c cs ih =>
    intro i u v k rest h
    rw [List.cons_append]
    by_cases hst : (i = 0 ∧ c = 128) ∨ 144115188075855871 < u
    · rw [num_stop hst] at h; cases h
    · by_cases hc : c < 128
      · rw [num_end hst hc] at h ⊢; exact h
      · rw [num_go hst hc] at h ⊢; exact ih _ _ _ _ _ h
theorem enc_cut {v : Int} (h1 : -9223372036854775808 ≤ v) (h2 : v ≤ 9223372036854775807) {k : Nat} (hk : k < (encV v).length) : numP ((encV v).take k) = (0, 0) := by
  have hf := fold_bd h1 h2
  have he : numAux 0 0 (encV v ++ []) = some ((foldZ v).toNat, groupsZ (foldZ v).toNat) := num_enc _ (by omega) []
  unfold numP
  cases hn : numAux 0 0 ((encV v).take k) with
  | none => rfl
  | some p =>
    obtain ⟨u, l⟩ := p
    have h3 := num_more _ _ _ _ _ ((encV v).drop k) hn
    rw [List.take_append_drop] at h3
    rw [List.append_nil, h3] at he
    have h4 := num_le _ _ _ _ _ hn
    simp only [Option.some.injEq, Prod.mk.injEq] at he
    rw [enc_len] at hk
    rw [List.length_take] at h4
    omega
theorem block_split (xs : List Int) : blockL xs = encV (xs.length : Int) ++ (xs ++ sumB (sumN (headL xs))) := by unfold blockL headL; rw [List.append_assoc]
theorem block_len (xs : List Int) : (blockL xs).length = (encV (xs.length : Int)).length + xs.length + 4 := by rw [block_split, List.length_append, List.length_append]; simp [sumB]; omega
theorem block_cut {xs : List Int} (hx : xs.length ≤ 100000) (hb : bytes xs) {k : Nat} (hk : k < (blockL xs).length) : firstZ ((blockL xs).take k) = none := by
  have hbb := blockL_bytes hb
  have hbt : bytes ((blockL xs).take k) := fun z hz => hbb z (List.mem_of_mem_take hz)
  have hl := block_len xs
  rcases Nat.lt_or_ge k (encV (xs.length : Int)).length with h | h
  · refine firstZ_bad (v := 0) (g := 0) hbt ?_ (.inl rfl)
    rw [block_split, List.take_append_of_le_length (by omega)]
    exact enc_cut (by omega) (by omega) h
  · have hp : numP ((blockL xs).take k) = ((xs.length : Int), (encV (xs.length : Int)).length) := by
      rw [block_split, List.take_append, List.take_of_length_le h, numP_enc (by omega) (by omega), enc_len]
    rw [firstZ_eq hbt hp (by have := enc_bd (xs.length : Int); omega) (by omega), if_pos (.inl (by rw [List.length_take]; omega))]
theorem first_own {x rest : List Int} (hx : x.length ≤ 100000) (hb : bytes x) (hr : bytes rest) : firstZ (blockL x ++ rest) = some (x, (blockL x).length) := by
  obtain ⟨E, hE⟩ : ∃ E, E = encV (x.length : Int) := ⟨_, rfl⟩
  have hall : bytes (blockL x ++ rest) := fun z hz => by
    rcases List.mem_append.1 hz with hz | hz
    · exact blockL_bytes hb z hz
    · exact hr z hz
  have hp : numP (blockL x ++ rest) = ((x.length : Int), E.length) := by
    rw [block_split, List.append_assoc, numP_enc (by omega) (by omega), hE, enc_len]
  have hE1 : 1 ≤ E.length := by rw [hE]; exact (enc_bd _).1
  have hl := block_len x
  rw [← hE] at hl
  have e1 : (headL x).length = E.length + x.length := by rw [headL, List.length_append, ← hE]
  have e2 : blockL x ++ rest = headL x ++ (sumB (sumN (headL x)) ++ rest) := by rw [blockL, List.append_assoc]
  have e3 : blockL x ++ rest = E ++ (x ++ (sumB (sumN (headL x)) ++ rest)) := by rw [e2, headL, ← hE, List.append_assoc]
  have hc : ¬ ((blockL x ++ rest).length < E.length + x.length + 4 ∨ ((blockL x ++ rest).drop (E.length + x.length)).take 4 ≠ sumB (sumN ((blockL x ++ rest).take (E.length + x.length)))) := by
    intro h
    rcases h with h | h
    · rw [List.length_append] at h; omega
    · apply h
      rw [← e1, e2, List.drop_left, List.take_left]
      exact List.take_left' (by simp [sumB])
  rw [firstZ_eq hall hp hE1 (by omega), if_neg hc]
  congr 1
  rw [Prod.mk.injEq]
  refine ⟨?_, by omega⟩
  rw [e3, List.drop_left, List.take_left]
/-- Entries' blocks, one behind the other. -/
def flatJ (Z : List EZ) : List Int := (Z.map fun z => blockL (encJ z)).flatten
theorem flatJ_snoc (Z : List EZ) (z : EZ) : flatJ (Z ++ [z]) = flatJ Z ++ blockL (encJ z) := by simp [flatJ]
theorem flatJ_app (Z Y : List EZ) : flatJ (Z ++ Y) = flatJ Z ++ flatJ Y := by simp [flatJ]
theorem flatJ_bytes (Z : List EZ) : bytes (flatJ Z) := by
  intro z hz
  simp only [flatJ, List.mem_flatten, List.mem_map] at hz
  obtain ⟨l, ⟨xs, hx, rfl⟩, hz⟩ := hz
  exact blockL_bytes (encJ_bytes xs) z hz
theorem flatJ_len {L M : List ByteArray} (hL : L.length ≤ 100) (hM : M.length ≤ 100) : ∀ {Z : List EZ}, (∀ z ∈ Z, rightJ L M z) → (flatJ Z).length ≤ 4500 * Z.length := by
  intro Z
  induction Z with
  | nil => intro _; simp [flatJ]
  | cons z Z ih =>
    intro h
    have h1 := ih fun y hy => h y (List.mem_cons_of_mem _ hy)
    have h2 := encJ_len (h z List.mem_cons_self) (by omega) (by omega)
    have h3 := blockL_len (encJ z)
    have e : flatJ (z :: Z) = blockL (encJ z) ++ flatJ Z := by simp [flatJ]
    rw [e, List.length_append, List.length_cons]
    omega
theorem stop_none {L M : List ByteArray} {bs : List Int} (h : firstZ bs = none) : JStop L M bs := fun xs l k => by rw [h] at k; cases k
theorem first_nil : firstZ [] = none := firstZ_bad (v := 0) (g := 0) (fun x hx => by cases hx) rfl (.inl rfl)
theorem first_128 : firstZ [128] = none := firstZ_bad (v := 0) (g := 0) (fun x hx => by rw [List.mem_singleton.1 hx]; omega) rfl (.inl rfl)
theorem pre_flat {L M : List ByteArray} (hL : L.length ≤ 100) (hM : M.length ≤ 100) : ∀ {Z : List EZ} {rest : List Int}, (∀ z ∈ Z, rightJ L M z) → bytes rest → JPre L M Z (flatJ Z).length (flatJ Z ++ rest) := by
  intro Z
  induction Z with
  | nil => intro rest _ _; rfl
  | cons z Z ih =>
    intro rest h hr
    have h2 := encJ_len (h z List.mem_cons_self) (by omega) (by omega)
    have e : flatJ (z :: Z) = blockL (encJ z) ++ flatJ Z := by simp [flatJ]
    rw [e]
    refine ⟨(blockL (encJ z)).length, (flatJ Z).length, ?_, h z List.mem_cons_self, by rw [List.length_append], ?_⟩
    · rw [List.append_assoc]
      exact first_own (by omega) (encJ_bytes z) (bytes_app' (flatJ_bytes Z) hr)
    · rw [List.append_assoc, List.drop_left]
      exact ih (fun y hy => h y (List.mem_cons_of_mem _ hy)) hr
theorem run_flat {L M : List ByteArray} (hL : L.length ≤ 100) (hM : M.length ≤ 100) {Z : List EZ} {rest : List Int} (h : ∀ z ∈ Z, rightJ L M z) (hr : bytes rest) (hs : JStop L M rest) : JRun L M Z (flatJ Z).length (flatJ Z ++ rest) :=
  ⟨pre_flat hL hM h hr, by rw [List.drop_left]; exact hs⟩
theorem run_all {L M : List ByteArray} (hL : L.length ≤ 100) (hM : M.length ≤ 100) {Z : List EZ} (h : ∀ z ∈ Z, rightJ L M z) : JRun L M Z (flatJ Z).length (flatJ Z) := by
  have := run_flat hL hM (rest := []) h (fun x hx => by cases hx) (stop_none first_nil)
  rwa [List.append_nil] at this
/-- A file of which some may be cut behind what is safe. -/
theorem run_cut {L M : List ByteArray} (hL : L.length ≤ 100) (hM : M.length ≤ 100) {Z : List EZ} {x : EZ} (h : ∀ z ∈ Z, rightJ L M z) (hx : rightJ L M x) (j : Nat) :
    JRun L M Z (flatJ Z).length (flatJ Z ++ (blockL (encJ x)).take j) ∨ JRun L M (Z ++ [x]) (flatJ (Z ++ [x])).length (flatJ Z ++ (blockL (encJ x)).take j) := by
  have h2 := encJ_len hx (by omega) (by omega)
  rcases Nat.lt_or_ge j (blockL (encJ x)).length with hj | hj
  · refine .inl (run_flat hL hM h (fun y hy => blockL_bytes (encJ_bytes x) y (List.mem_of_mem_take hy)) (stop_none (block_cut (by omega) (encJ_bytes x) hj)))
  · right
    rw [List.take_of_length_le hj, ← flatJ_snoc]
    exact run_all hL hM fun z hz => by
      rcases List.mem_append.1 hz with h1 | h1
      · exact h z h1
      · rw [List.mem_singleton.1 h1]; exact hx
end Go.Proofs.YthogafecplhckaaDoor
