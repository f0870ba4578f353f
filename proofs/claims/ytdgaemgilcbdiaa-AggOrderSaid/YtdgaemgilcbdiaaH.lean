import Derived.Test.YtdgaemgilcbdiaaG
import Derived.Deep.RegionWith
namespace Go.Proofs.Ytdgaemgilcbdiaa
open Go.RowKit
set_option linter.unusedSimpArgs false
def allL (zs : List Int) : A3 × Int := match zs with | [] => (A3.zero, 1) | z :: zs => finA (allA z zs)
theorem joinl_all {first : Int} {zs : List Int} {r : A3 × Int} (h : finA (allA first zs) = r) (A : Option Addr) (n c : Nat) (w : World) (hA : Row w A (zs.map (Value.int .i64))) (hn : n ≤ 9223372036854775807) (hz : n = zs.length) :
    Calls Try.prog 18 #[.int .i64 first, .slice A n c] w (Ans r w) := by subst h; exact joinl_any first A n c zs w hA hn hz
set_option maxHeartbeats 400000 in
theorem all_none (A : Option Addr) (c : Nat) (w : World) :
    Calls Try.prog 10 #[.slice A 0 c] w (Ans (A3.zero, 1) w) := by
  go_enter Try.func10, Try.ntmps10
  go_wp2
  exact bodyPost_ret (v := .tuple #[.agg #[.int .i64 0, .int .i64 0, .int .i64 0], .int .i64 1]) (by simp [results, Try.results10, go_sem]) rfl
    ⟨rfl, by repeat (first | exact Below.refl _ _ | refine bset ?_ (by omega) _ | refine bpush ?_ _)⟩
set_option maxHeartbeats 400000 in
theorem all_some (A : Option Addr) (n c : Nat) (z : Int) (zs : List Int) (w : World) (hA : Row w A ((z :: zs).map (Value.int .i64))) (hn : n ≤ 9223372036854775807) (hz : n = zs.length + 1) (hnc : n ≤ c) :
    Calls Try.prog 10 #[.slice A n c] w (Ans (finA (allA z zs)) w) := by
  obtain ⟨⟨r, k⟩, hj⟩ : ∃ p, finA (allA z zs) = p := ⟨_, rfl⟩
  rw [hj]
  have HJ := Lib.hid hj
  have HZ := Lib.hid hz
  have hpos : 0 < n := by omega
  clear hj hz
  rcases hA with hA | ⟨b, off, rfl, hc⟩
  · simp at hA
  have h0 : w.cell? ⟨b, off, none⟩ = some (.int .i64 z) := by simpa using hc 0 (.int .i64 z) (by simp)
  have h1 : (1 : Int) ≤ (n : Int) := by omega
  have h2 : ((n : Int) == 0) = false := by simp; omega
  have hlt := lt_of_cell h0
  by_cases h : c = 1
  · subst h
    have hn1 : n = 1 := by omega
    have hzs : zs = [] := List.eq_nil_of_length_eq_zero (by have := HZ.out; omega)
    subst hzs hn1
    have hrow : Row (w.alloc (.cells #[.int .i64 0, .int .i64 0, .int .i64 0] 23)) (some ⟨b, off, none⟩) (([] : List Int).map (Value.int .i64)) := .inl rfl
    clear hc h1
    go_enter Try.func10, Try.ntmps10
    go_wp2
    go_region_with (go_at_call 18; refine (joinl_all HJ.out _ _ _ _ (by exact hrow) (by omega) (by have := HZ.out; omega)).mono ?_; rintro e w1 ⟨rfl, hb⟩; obtain ⟨hc1, hf1⟩ := bcell hb; have hz1 : w.heap.size < w1.heap.size := by (have := hb.size; simp at this; omega))
    all_goals
      have hb' : Below w.heap.size w w1 := bthen (w1 := (w.alloc (.cells #[.int .i64 0, .int .i64 0, .int .i64 0] 23)).drew) ((bpush (Below.refl _ _) _).drew) hb
      go_wp2
      exact bodyPost_ret (v := .tuple #[.agg #[.int .i64 r.s, .int .i64 r.mn, .int .i64 r.mx], .int .i64 k]) (by simp [results, Try.results10, go_sem, hc1, hz1]) rfl
        ⟨rfl, by repeat (first | exact hb' | refine bset ?_ (by omega) _)⟩
  · have hrow : Row (w.alloc (.cells #[.int .i64 0, .int .i64 0, .int .i64 0] 23)) (some ⟨b, off + 1, none⟩) (zs.map (Value.int .i64)) := by
      refine Row.keep (B := w.heap.size) (.inr ⟨b, off + 1, rfl, fun j u hu => ?_⟩) (Nat.le_refl _) (bpush (Below.refl _ _) _)
      have := hc (j + 1) u (by simpa using hu)
      rwa [show off + 1 + j = off + (j + 1) from by omega]
    clear hc
    have h3 : ¬ c = 1 := h
    go_enter Try.func10, Try.ntmps10
    go_wp2
    go_region_with (go_at_call 18; refine (joinl_all HJ.out _ _ _ _ (by exact hrow) (by omega) (by have := HZ.out; omega)).mono ?_; rintro e w1 ⟨rfl, hb⟩; obtain ⟨hc1, hf1⟩ := bcell hb; have hz1 : w.heap.size < w1.heap.size := by (have := hb.size; simp at this; omega))
    all_goals
      have hb' : Below w.heap.size w w1 := bthen (w1 := (w.alloc (.cells #[.int .i64 0, .int .i64 0, .int .i64 0] 23)).drew) ((bpush (Below.refl _ _) _).drew) hb
      go_wp2
      exact bodyPost_ret (v := .tuple #[.agg #[.int .i64 r.s, .int .i64 r.mn, .int .i64 r.mx], .int .i64 k]) (by simp [results, Try.results10, go_sem, hc1, hz1]) rfl
        ⟨rfl, by repeat (first | exact hb' | refine bset ?_ (by omega) _)⟩
end Go.Proofs.Ytdgaemgilcbdiaa
