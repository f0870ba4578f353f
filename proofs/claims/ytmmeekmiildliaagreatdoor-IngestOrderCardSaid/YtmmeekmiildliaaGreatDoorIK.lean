/- An event's row in an index. -/
import Derived.Test.YtmmeekmiildliaaGreatDoorIF
import Derived.Test.YtmmeekmiildliaaGreatDoorRE
namespace Go.Proofs.YtmmeekmiildliaaGreatDoor
open Go.RowKit Go.Maps
set_option linter.unusedSimpArgs false
set_option linter.unusedVariables false
/-- The row of an event in an index. -/
def rowX (t g : Int) (D : List ByteArray) (X : List Int) : RV := ⟨flr t g, D, 1, onesG X⟩
structure EvOk (L M D : List ByteArray) (X : List Int) (t : Int) : Prop where
  dl : D.length = L.length
  xl : X.length = M.length
  dv : ∀ s ∈ D, valP s
  xv : ∀ x ∈ X, ¬ greatZ x
  t0 : 0 ≤ t
  t1 : t ≤ 1099511627776
theorem CheckIs.ok {L M D : List ByteArray} {X : List Int} {t v : Int} (h : CheckIs L M D X t v) (hv : v = 0) : EvOk L M D X t := by
  subst hv
  rcases h with ⟨_, h⟩ | ⟨_, _, h⟩ | ⟨h1, h2, ⟨_, h⟩ | ⟨_, _, h⟩ | ⟨h3, h4, ⟨_, h⟩ | ⟨_, h⟩ | ⟨h5, h6, _⟩⟩⟩
  · exact absurd h (by decide)
  · exact absurd h (by decide)
  · exact absurd h (by decide)
  · exact absurd h (by decide)
  · exact absurd h (by decide)
  · exact absurd h (by decide)
  · exact ⟨h1, h2, h3, h4, h5, h6⟩
theorem one_ok {n : Int} (h : ¬ greatZ n) : okA (ofA3 (oneA n).1) := by
  unfold greatZ at h
  have hf : fit1 n = true := by unfold fit1; simp; omega
  have e : (oneA n).1 = ⟨n, n, n⟩ := by unfold oneA; rw [if_pos hf]
  rw [e]
  show rightB n n n = true
  unfold rightB; rw [hf]; simp
theorem rowX_ok {L M D : List ByteArray} {X : List Int} {t g : Int} (h : EvOk L M D X t) (hg : okGran g) : OkX L.length M.length (rowX t g D X) := by
  have hb := flr_bd (t := t) hg.1
  refine ⟨⟨?_, h.dl, h.dv⟩, ⟨by show (0 : Int) ≤ 1; decide, by show (1 : Int) ≤ 1048576; decide, ?_, ?_⟩⟩
  · show 0 ≤ flr t g
    have h1 := hg.1
    have h0 := h.t0
    unfold flr
    have h2 := Int.emod_add_mul_ediv t g
    have h3 : 0 ≤ t / g := Int.ediv_nonneg h0 (by omega)
    have h4 : 0 ≤ g * (t / g) := Int.mul_nonneg (by omega) h3
    omega
  · show (onesG X).length = M.length
    rw [onesG_len, h.xl]
  · intro a ha
    obtain ⟨n, hn, rfl⟩ := List.mem_map.1 ha
    exact one_ok (h.xv n hn)
theorem rowX_time {L M D : List ByteArray} {X : List Int} {t g : Int} (h : EvOk L M D X t) (hg : okGran g) : okBoth t g := ⟨hg, by have := h.t0; omega, h.t1⟩
theorem okx_mem {d q : Nat} {V V' : List RV} {Z Z' : List RZ} (h : IxV V Z) (h' : IxV V' Z') (hV : ∀ a ∈ V, OkX d q a) (hz : ∀ z ∈ Z', z ∈ Z ∨ OkX d q z.2) : ∀ a ∈ V', OkX d q a := fun a ha => by
  obtain ⟨z, hz', rfl⟩ := List.mem_map.1 (h'.perm.mem_iff.2 ha)
  rcases hz z hz' with h1 | h1
  · exact hV _ (h.mem h1)
  · exact h1
theorem okx_join {d q : Nat} {a b : RV} (ha : OkX d q a) (hb : OkX d q b) (hk : cmpV a b = 0) (h0 : (joinR a b).2 = 0) : OkX d q (joinR a b).1 := by
  rcases joinR_okR ha.r hb.r hk with ⟨_, h1, h2⟩ | h1
  · obtain ⟨e1, e2⟩ := cmpV_zero.1 h2
    exact ⟨⟨by rw [e2]; exact ha.d.t, by rw [e1]; exact ha.d.len, by rw [e1]; exact ha.d.vals⟩, h1⟩
  · rw [h0] at h1; exact absurd h1 (by decide)
/-- What Add answers, and what the index holds then. -/
def addR (V : List RV) (v : Int) (x : RV) : Int × List RV := if v = 0 then (if (insK V x).2 = 0 then (0, (insK V x).1) else ((insK V x).2, V)) else (v, V)
/-- JoinPost, written out. -/
def FlatPost (w : World) (r : RV × Int) (e : Ending) (w' : World) : Prop := ∃ D n c G gn gc t L u X, e = .returned (.tuple #[.agg #[.int .i64 t, .slice D n c, .int .i64 u, .slice G gn gc], .int .i64 r.2]) ∧ (⟨t, L, u, X⟩ : RV) = r.1 ∧ Owned w.heap.size w' (⟨D, n, c, G, gn, gc⟩, ⟨t, L, u, X⟩) ∧ Below w.heap.size w w'
theorem JoinPost.flat {w w' : World} {r : RV × Int} {e : Ending} (h : JoinPost w r e w') : FlatPost w r e w' := by
  obtain ⟨⟨⟨D, n, c, G, gn, gc⟩, ⟨t, L, u, X⟩⟩, he, hz, ho, hb⟩ := h
  exact ⟨D, n, c, G, gn, gc, t, L, u, X, he, hz, ho, hb⟩
theorem ofR_err (t : Int) (D : List ByteArray) (X : List Int) (v : Int) : (ofR t D X v).2 = v := by
  unfold ofR; by_cases h : v = 0
  · rw [if_pos h]; exact h.symm
  · rw [if_neg h]
def AddPost (w : World) (B bx mb nn : Nat) (g : Int) (L M : List ByteArray) (V : List RV) (a : Int × List RV) (e : Ending) (w' : World) : Prop :=
  e = .returned (.int .i64 a.1) ∧ Ix w' B bx mb g L M a.2 (if a.1 = 0 then nn + 1 else nn) ∧ Kx bx mb w w'
end Go.Proofs.YtmmeekmiildliaaGreatDoor
