/- The walks of IngestNil (6) and IngestCharges (3). -/
import Derived.Test.YtmmeekmiildliaaGreatDoorIR
namespace Go.Proofs.YtmmeekmiildliaaGreatDoor
open Go.RowKit
set_option linter.unusedSimpArgs false
set_option linter.unusedVariables false
theorem chg_size {k : Int} {S X : List Int} {m : Nat} {v : Int} (hS : S.length ≤ 20) : (chg k S X m v).1.2.length ≤ 20 := by
  have h : ∀ (S X : List Int) (T : List Int), addS S X = some T → T.length ≤ S.length := by
    intro S
    induction S with
    | nil => intro X T h; rw [addS] at h; cases h; simp; intro _ _ _ _ h; cases h
    | cons s S ih =>
      intro X T h
      cases X with
      | nil => rw [addS] at h; cases h; simp; intro _ _ _ _ _ h; cases h
      | cons x X =>
        rw [addS] at h
        split at h
        · cases h
        · rcases he : addS S X with _ | T'
          · rw [he] at h; cases h
          · rw [he] at h
            simp at h
            subst h
            have := ih X T' he
            simp; omega
  unfold chg chgS
  split
  · split
    · simp
    · rcases he : addS S X with _ | T
      · simp
      · have := h S X T he
        simp; omega
  · simp
/-- One event in a slice. -/
theorem one_ev {w : World} {z : EV} (hz : EvG w z) : EvsC (w.alloc (.cells #[.int .i64 z.t, .slice z.E z.p z.q, .slice z.F z.x z.y] 29)) (some ⟨w.heap.size, 0, none⟩) [z] :=
  ⟨Row.made rfl rfl, fun y hy => by rw [List.mem_singleton.1 hy]; exact hz.keep (Nat.le_refl _) (bpush (Below.refl _ _) _)⟩
set_option maxRecDepth 100000 in
set_option maxHeartbeats 16000000 in
theorem nil_walk (z : EV) (w : World) (hT : Tab w) (hz : EvG w z) (hp2 : z.p ≤ 9223372036854775807) (hx2 : z.x ≤ 9223372036854775807) :
    Calls Tryz.prog 6 #[.agg #[.int .i64 z.t, .slice z.E z.p z.q, .slice z.F z.x z.y]] w fun e w' => e = .returned (.bool true) ∧ Below w.heap.size w w' := by
  obtain ⟨W0, hW0⟩ : ∃ W0, W0 = w.alloc (.cells #[.int .i64 z.t, .slice z.E z.p z.q, .slice z.F z.x z.y] 29) := ⟨_, rfl⟩
  obtain ⟨W1, hW1⟩ : ∃ W1, W1 = W0.alloc (.cells #[.int .i64 z.t, .slice z.E z.p z.q, .slice z.F z.x z.y] 29) := ⟨_, rfl⟩
  have hb0 : Below w.heap.size w W0 := by rw [hW0]; exact bpush (Below.refl _ _) _
  have hb1 : Below W0.heap.size W0 W1 := by rw [hW1]; exact bpush (Below.refl _ _) _
  have x0 : W0.cell? ⟨w.heap.size, 0, none⟩ = some (.int .i64 z.t) := by rw [hW0]; exact cell_made rfl rfl
  have x1 : W0.cell? ⟨w.heap.size, 1, none⟩ = some (.slice z.E z.p z.q) := by rw [hW0]; exact cell_made rfl rfl
  have x2 : W0.cell? ⟨w.heap.size, 2, none⟩ = some (.slice z.F z.x z.y) := by rw [hW0]; exact cell_made rfl rfl
  obtain ⟨r, hr⟩ := bool_of (FitsE [] [] [z])
  have HF := Lib.hid (fitsev_any none none (some ⟨W0.heap.size, 0, none⟩) 0 0 0 0 1 1 [] [] [z] W1 (.inl rfl) (.inl rfl) (by rw [hW1]; exact one_ev (hz.keep (Nat.le_refl _) hb0)) rfl rfl rfl (by omega) (by omega) (by omega) (fun y hy => by rw [List.mem_singleton.1 hy]; exact ⟨hp2, hx2⟩) r hr)
  have HT := Lib.hid (hT.keep (bthen hb0 hb1))
  have HB := Lib.hid (bthen hb0 hb1)
  have HW0 := Lib.hid hW0
  have HW1 := Lib.hid hW1
  have x0 := cell_on hb1 x0
  have x1 := cell_on hb1 x1
  have x2 := cell_on hb1 x2
  clear hT hz hp2 hx2 hb0 hb1 hW0 hW1 hr
  go_enter Tryz.func6, Tryz.ntmps6
  go_upto_region 1 with fail
  rw [← HW0.out]
  go_upto_region 2 with (rw [← HW1.out]; go_at_call 8; refine HF.out.mono ?_; rintro e w2 ⟨rfl, hb2⟩)
  have x0 := cell_on hb2 x0
  have x1 := cell_on hb2 x1
  have x2 := cell_on hb2 x2
  have HT := Lib.hid (HT.out.keep hb2)
  have HB := Lib.hid (bthen HB.out hb2)
  clear hb2 HF HW0 HW1
  have HAL := Lib.hid (alive_any w2 HT.out)
  cases r with
  | false =>
    go_wp2_with (go_at_call 10; refine HAL.out.mono ?_; rintro e w3 ⟨rfl, hb3⟩)
    go_ret
    exact ⟨rfl, bthen HB.out hb3⟩
  | true =>
    go_upto_region 5 with fail
    go_wp2_with (first
      | (go_at_call 10; with_reducible refine HAL.out.mono ?_; rintro e w3 ⟨rfl, hb3⟩; have HB3 := Lib.hid (bthen HB.out hb3); have x0 := cell_on hb3 x0; have x1 := cell_on hb3 x1; have x2 := cell_on hb3 x2; clear hb3)
      | (go_at_call 18; refine (add_nil (.bool false) z.t z.E z.F z.p z.q z.x z.y _).mono ?_; rintro e w4 ⟨rfl, hb4⟩; have HB4 := Lib.hid (bthen HB3.out hb4); clear hb4)
      | (go_at_call 17; refine (rows_nil _).mono ?_; rintro e w5 ⟨rfl, rfl⟩)
      | (go_at_call 21; refine (len_nil _).mono ?_; rintro e w6 ⟨rfl, rfl⟩)
      | (go_at_call 22; refine (count_nil _).mono ?_; rintro e w7 ⟨rfl, rfl⟩)
      | (go_at_call 16; refine (copy_nil _).mono ?_; rintro e w8 ⟨rfl, rfl⟩))
    go_ret
    exact ⟨rfl, HB4.out⟩
end Go.Proofs.YtmmeekmiildliaaGreatDoor
