/- Reading what the acts of a script put. -/
import Derived.Test.YtmeheaapfdldeaaO
namespace Go.Proofs.Ytmeheaapfdldeaa
open Go.RowKit
theorem encV_bytes (v : Int) : bytes (encV v) := encI_bytes _
theorem bytes_app {xs ys : List Int} (h1 : bytes xs) (h2 : bytes ys) : bytes (xs ++ ys) := by
  intro x hx
  rcases List.mem_append.1 hx with h | h
  · exact h1 x h
  · exact h2 x h
theorem encA_bytes (a : Act5) : bytes (encA a) := bytes_app (bytes_app (encV_bytes _) (encV_bytes _)) (sB_bytes _)
theorem flat_bytes : ∀ L : List Act5, bytes (flatA L) := by
  intro L
  induction L with
  | nil => intro x hx; simp [flatA] at hx
  | cons a L ih =>
    rw [flat_cons]
    refine bytes_app ?_ ih
    split
    · exact encA_bytes a
    · intro x hx; simp at hx
theorem drop_good {M : List Act5} {k : Nat} (h : k < M.length) (hg : M[k].s.size ≤ 400) : flatA (M.drop k) = encV M[k].n ++ (encV M[k].s.size ++ (sB M[k].s ++ flatA (M.drop (k + 1)))) := by
  rw [List.drop_eq_getElem_cons h, flat_cons, if_pos hg]; simp [encA]
theorem drop_bad {M : List Act5} {k : Nat} (h : k < M.length) (hg : ¬ M[k].s.size ≤ 400) : flatA (M.drop k) = flatA (M.drop (k + 1)) := by
  rw [List.drop_eq_getElem_cons h, flat_cons, if_neg hg]; simp
theorem drop_end {M : List Act5} {k : Nat} (h : M.length ≤ k) : flatA (M.drop k) = [] := by rw [List.drop_of_length_le h]; rfl
theorem Script.take {w : World} {A : Option Addr} {L : List Act5} (h : Script w A L) (j : Nat) : Script w A (L.take j) := by
  rcases h with h | ⟨b, off, rfl, hc⟩
  · subst h; exact .inl (by simp)
  · refine .inr ⟨b, off, rfl, fun i hi => ?_⟩
    have hi2 : i < L.length := by rw [List.length_take] at hi; omega
    have := hc i hi2
    rw [List.getElem_take]; exact this
theorem act_int (rb : Nat) (v : Int) (rest : List Int) (w : World) (hR : Rd w rb (encV v ++ rest)) (hb : bytes rest) (h1 : -9223372036854775808 ≤ v) (h2 : v ≤ 9223372036854775807) :
    Calls Try.prog 20 #[.pointer (some ⟨rb, 0, none⟩), .int .i64 v, .int .i64 v] w (ReadPost w rb (.int .i64 v) 0 rest) := by
  have hp := numP_enc h1 h2 rest
  have hg := groups_bd (foldZ v).toNat
  have := rint_good rb (encV v ++ rest) v v w hR (bytes_app (encV_bytes v) hb) v _ hp (by omega) (Int.le_refl _) (Int.le_refl _)
  have hd : (encV v ++ rest).drop (groupsZ (foldZ v).toNat) = rest := by
    rw [List.drop_append_of_le_length (by rw [encV, encI_length]; exact Nat.le_refl _), List.drop_of_length_le (by rw [encV, encI_length]; exact Nat.le_refl _)]; rfl
  rw [hd] at this
  exact this
theorem act_text (rb : Nat) (s : ByteArray) (rest : List Int) (w : World) (hR : Rd w rb (encV s.size ++ (sB s ++ rest))) (hb : bytes rest) (h2 : s.size ≤ 1000000) :
    Calls Try.prog 22 #[.pointer (some ⟨rb, 0, none⟩), .int .i64 s.size] w (ReadPost w rb (.string s) 0 rest) := by
  obtain ⟨bs, hbs⟩ : ∃ bs, bs = encV s.size ++ (sB s ++ rest) := ⟨_, rfl⟩
  obtain ⟨l, hl⟩ : ∃ l, l = groupsZ (foldZ s.size).toNat := ⟨_, rfl⟩
  have hp := numP_enc (v := s.size) (by omega) (by omega) (sB s ++ rest)
  have hg := groups_bd (foldZ s.size).toNat
  have hel : (encV s.size).length = l := by rw [encV, encI_length, hl]
  rw [← hl] at hp hg
  rw [← hbs] at hp hR
  have hlen : l + s.size ≤ bs.length := by rw [hbs, List.length_append, List.length_append, sB_length, hel]; omega
  have hd : bs.drop l = sB s ++ rest := by
    rw [hbs, List.drop_append_of_le_length (by omega), List.drop_of_length_le (by omega)]; rfl
  have hd2 : bs.drop (l + s.size) = rest := by
    rw [← List.drop_drop, hd, List.drop_append_of_le_length (by rw [sB_length]; exact Nat.le_refl _), List.drop_of_length_le (by rw [sB_length]; exact Nat.le_refl _)]; rfl
  have ht : (bs.drop l).take s.size = sB s := by
    rw [hd, List.take_append_of_le_length (by rw [sB_length]; exact Nat.le_refl _), List.take_of_length_le (by rw [sB_length]; exact Nat.le_refl _)]
  have := rtext_good rb bs s.size w hR (by rw [hbs]; exact bytes_app (encV_bytes _) (bytes_app (sB_bytes _) hb)) s.size l hp (by omega) (Int.le_refl _) hlen
  rw [hd2, ht, strOf_sB] at this
  exact this
theorem left_of {bs : List Int} {m : Nat} (h : bs.length = m) (rb : Nat) (w : World) (hR : Rd w rb bs) : Calls Try.prog 26 #[.pointer (some ⟨rb, 0, none⟩)] w fun e w' => e = .returned (.int .i64 m) ∧ w = w' := by subst h; exact left_any rb bs w hR
theorem left_zero (rb : Nat) (w : World) (hR : Rd w rb []) : Calls Try.prog 26 #[.pointer (some ⟨rb, 0, none⟩)] w fun e w' => e = .returned (.int .i64 0) ∧ w = w' := left_any rb [] w hR
theorem left_b {bs : List Int} {m : Nat} (h : bs.length = m) (rb : Nat) (w : World) (hR : Rd w rb bs) : Calls Try.prog 26 #[.pointer (some ⟨rb, 0, none⟩)] w fun e w' => e = .returned (.int .i64 m) ∧ Below w.heap.size w w' :=
  (left_of h rb w hR).mono fun _ _ ⟨h1, h2⟩ => ⟨h1, h2 ▸ Below.refl _ _⟩
theorem rd_on {W w1 : World} {rb : Nat} {bs : List Int} (hb : Below W.heap.size W w1) (h : Rd W rb bs) : Rd w1 rb bs := h.keep hb
end Go.Proofs.Ytmeheaapfdldeaa
