/- Encode (19). -/
import Derived.Test.YthogafecplhckaaDoorNA
import Derived.Test.YthogafecplhckaaDoorCQ
import Derived.Test.YthogafecplhckaaDoorVA
namespace Go.Proofs.YthogafecplhckaaDoor
open Go.RowKit
set_option linter.unusedSimpArgs false
set_option linter.unusedVariables false
/-- A text's bytes. -/
def encT (s : ByteArray) : List Int := encV (s.size : Nat) ++ sB s
/-- An entry's bytes. -/
def encJ (z : EZ) : List Int := if z.tick = true then encV 1 ++ encV z.now else encV 0 ++ encV z.ev.t ++ (z.ev.D.map encT).flatten ++ (z.ev.X.map encV).flatten
theorem flat_len (D : List ByteArray) (h : ∀ s ∈ D, s.size ≤ 24) : (D.map encT).flatten.length ≤ 34 * D.length := by
  induction D with
  | nil => simp
  | cons s D ih =>
    have h1 := ih fun u hu => h u (List.mem_cons_of_mem _ hu)
    have h2 := h s List.mem_cons_self
    have h3 := (enc_bd (s.size : Nat)).2
    have h4 : (sB s).length = s.size := sB_length s
    rw [List.map_cons, List.flatten_cons, List.length_append, encT, List.length_append, h4, List.length_cons]
    omega
theorem flat_lenV (X : List Int) : (X.map encV).flatten.length ≤ 10 * X.length := by
  induction X with
  | nil => simp
  | cons s D ih =>
    have h3 := (enc_bd s).2
    rw [List.map_cons, List.flatten_cons, List.length_append, List.length_cons]
    omega
theorem row_own {w : World} {B g l kc : Nat} {acc : List Int} (h : w.ownsRow B 5 1 (.slice (some ⟨g, 0, none⟩) l kc) l (acc.map (Value.int .u8))) : Row w (some ⟨g, 0, none⟩) (acc.map (Value.int .u8)) := by
  obtain ⟨A, c, he, hr, _⟩ := own_slice h
  cases he
  exact hr
def EncPost (w : World) (L M : List ByteArray) (z : EZ) (e : Ending) (w' : World) : Prop :=
  (¬ rightJ L M z ∧ e = .returned (.tuple #[.slice none 0 0, .int .i64 191]) ∧ Below w.heap.size w w') ∨
  (rightJ L M z ∧ ∃ g cap, e = .returned (.tuple #[.slice (some ⟨g, 0, none⟩) (encJ z).length cap, .int .i64 0]) ∧ (encJ z).length ≤ cap ∧ w'.ownsRow w.heap.size 5 1 (.slice (some ⟨g, 0, none⟩) (encJ z).length cap) (encJ z).length ((encJ z).map (Value.int .u8)) ∧ Below w.heap.size w w')
set_option maxRecDepth 100000 in
set_option maxHeartbeats 16000000 in
theorem encode_any (A B : Option Addr) (n c m d : Nat) (L M : List ByteArray) (z : EZ) (w : World) (hz : EvG w z.ev) (hn : n = L.length) (hm : m = M.length) (hn2 : n ≤ 1000) (hm2 : m ≤ 1000) (hp2 : z.ev.p ≤ 9223372036854775807) (hx2 : z.ev.x ≤ 9223372036854775807) :
    Calls Tryd.prog 19 #[.agg #[.slice A n c, .slice B m d], z.arg] w (EncPost w L M z) := by
  obtain ⟨r, hr⟩ := bool_of (rightJ L M z)
  obtain ⟨tick, now, ⟨E, p, q, F, x, y, t, D, X⟩⟩ := z
  obtain ⟨W0, hW0⟩ : ∃ W0, W0 = (w.alloc (.cells #[.slice A n c, .slice B m d] 24)).alloc (.cells #[.bool tick, .int .i64 now, .int .i64 t, .slice E p q, .slice F x y] 46) := ⟨_, rfl⟩
  have hb0 : Below w.heap.size w W0 := by rw [hW0]; exact bpush (bpush (Below.refl _ _) _) _
  have s0 : W0.cell? ⟨w.heap.size, 0, none⟩ = some (.slice A n c) := by rw [hW0]; exact cell_on (bpush (Below.refl _ _) _) (cell_made rfl rfl)
  have s1 : W0.cell? ⟨w.heap.size, 1, none⟩ = some (.slice B m d) := by rw [hW0]; exact cell_on (bpush (Below.refl _ _) _) (cell_made rfl rfl)
  have HC0 := Lib.hid (show ∀ W, Below W0.heap.size W0 W → W.cell? ⟨w.heap.size + 1, 0, none⟩ = some (.bool tick) ∧ W.cell? ⟨w.heap.size + 1, 1, none⟩ = some (.int .i64 now) ∧ W.cell? ⟨w.heap.size + 1, 2, none⟩ = some (.int .i64 t) ∧ W.cell? ⟨w.heap.size + 1, 3, none⟩ = some (.slice E p q) ∧ W.cell? ⟨w.heap.size + 1, 4, none⟩ = some (.slice F x y) from fun W hW => ⟨cell_on hW (by rw [hW0]; exact cell_made (by simp) rfl), cell_on hW (by rw [hW0]; exact cell_made (by simp) rfl), cell_on hW (by rw [hW0]; exact cell_made (by simp) rfl), cell_on hW (by rw [hW0]; exact cell_made (by simp) rfl), cell_on hW (by rw [hW0]; exact cell_made (by simp) rfl)⟩)
  have HRC := Lib.hid (jright_any A B n c m d L M ⟨tick, now, ⟨E, p, q, F, x, y, t, D, X⟩⟩ W0 (hz.keep (Nat.le_refl _) hb0) hn hm hp2 hx2 r hr)
  have HZ := Lib.hid hz
  have HR := Lib.hid hr
  have HB0 := Lib.hid hb0
  have HW0 := Lib.hid hW0
  have HNL := Lib.hid hn
  have HML := Lib.hid hm
  obtain ⟨e0, e1, e2, e3, e4⟩ := HC0.out W0 (Below.refl _ _)
  clear hz hn hm hp2 hx2 hr hW0 hb0
  go_enter Tryd.func19, Tryd.ntmps19
  go_upto_region 1 with fail
  rw [← HW0.out]
  clear HW0
  cases r with
  | false =>
    have hnr : ¬ rightJ L M ⟨tick, now, ⟨E, p, q, F, x, y, t, D, X⟩⟩ := fun h => by have := HR.out.2 h; cases this
    have HNR := Lib.hid hnr
    clear hnr HR
    go_wp2_with (go_at_call 39; refine HRC.out.mono ?_; rintro e w1 ⟨rfl, hb1⟩)
    refine bodyPost_ret (v := .tuple #[.slice none 0 0, .int .i64 191]) (by simp [results, Tryd.results19, go_sem]) rfl ?_
    exact .inl ⟨HNR.out, rfl, bthen HB0.out hb1⟩
  | true =>
  have HRJ := Lib.hid (HR.out.1 rfl)
  clear HR
  go_upto_region 3 with (go_at_call 39; refine HRC.out.mono ?_; rintro e W1 ⟨rfl, hb1⟩)
  have HB1 := Lib.hid (bthen HB0.out hb1)
  have HCEL := Lib.hid (fun W (hW : Below W1.heap.size W1 W) => HC0.out W (hb1.trans (hW.mono hb1.size)))
  clear hb1 HRC e0 e1 e2 e3 e4 s0 s1 HC0
  obtain ⟨e0, e1, e2, e3, e4⟩ := HCEL.out W1 (Below.refl _ _)
  cases tick with
  | true =>
    have HLO := Lib.hid (show -9223372036854775808 ≤ now ∧ now ≤ 9223372036854775807 by
      have h := HRJ.out
      unfold rightJ at h
      simp at h
      omega)
    have HEJ := Lib.hid (show encJ ⟨true, now, ⟨E, p, q, F, x, y, t, D, X⟩⟩ = encV 1 ++ encV now by unfold encJ; rw [if_pos rfl])
    go_upto_region 4 with fail
    clear e0 e1 e2 e3 e4
    refine wp_region_held_drew (S := fun W => Below W1.heap.size W1 W) (by kernel_rfl) (below_drewN (Below.refl _ _) 1) ?_
    intro hHeld
    refine take_want (i := 1) (v := ?v1k1) rfl (by kernel_rfl) (by kernel_rfl) (by kernel_rfl) (fun _ _ _ h => h) (by rfl) ?y1k1 (by assumption) ?r1k1
    case y1k1 => (intro w hSw; obtain ⟨q0, q1, q2, q3, q4⟩ := HCEL.out w hSw; go_simp; all_goals with_reducible rfl)
    (try simp only [Act.put, List.setIfInBounds_toArray, List.set_cons_zero, List.set_cons_succ])
    refine take_want (i := 2) (v := ?v2k1) rfl (by kernel_rfl) (by kernel_rfl) (by kernel_rfl) (fun _ _ _ h => h) (by rfl) ?y2k1 (by assumption) ?r2k1
    case y2k1 => (intro w hSw; obtain ⟨q0, q1, q2, q3, q4⟩ := HCEL.out w hSw; go_simp; all_goals with_reducible rfl)
    (try simp only [Act.put, List.setIfInBounds_toArray, List.set_cons_zero, List.set_cons_succ])
    refine wpAnyH_ready (rs := [0]) (by kernel_rfl) (by simp) ?_
    refine AllReadyH.cons rfl (fun K hK => ?_) AllReadyH.nil
    go_simp
    (go_at_call 40; refine (int_any none 0 0 [] 1 _ (.inl rfl) (by omega) rfl (by omega) (by omega) (by omega)).mono ?_; rintro e w2 ⟨g2, k2, rfl, hc2, ho2, hb2⟩)
    have hb12 : Below W1.heap.size W1 w2 := bthen hHeld hb2
    obtain ⟨Y2, hY2⟩ : ∃ Y2, Y2 = [] ++ encV 1 := ⟨_, rfl⟩
    rw [← hY2] at hc2 ho2 ⊢
    obtain ⟨l2, hl2⟩ : ∃ l2, l2 = Y2.length := ⟨_, rfl⟩
    rw [← hl2] at hc2 ho2 ⊢
    have hl2b : 1 ≤ l2 ∧ l2 ≤ 10 := by rw [hl2, hY2, List.nil_append]; exact enc_bd 1
    have HR2 := Lib.hid (row_own ho2)
    have HL2 := Lib.hid hl2
    have HY2 := Lib.hid hY2
    clear hl2 hY2 ho2
    refine hK.out _ _ (hb12) (fun hHeld => ?_)
    clear hK K
    (try simp only [Act.put, List.setIfInBounds_toArray, List.set_cons_zero, List.set_cons_succ])
    refine wpAnyH_ready (rs := [3]) (by kernel_rfl) (by simp) ?_
    refine AllReadyH.cons rfl (fun K hK => ?_) AllReadyH.nil
    go_simp
    (go_at_call 40; refine (int_any (some ⟨g2, 0, none⟩) l2 k2 Y2 now w2 HR2.out (by omega) HL2.out hc2 HLO.out.1 HLO.out.2).mono ?_; rintro e w3 ⟨g3, k3, rfl, hc3, ho3, hb3⟩)
    obtain ⟨Y3, hY3⟩ : ∃ Y3, Y3 = Y2 ++ encV now := ⟨_, rfl⟩
    rw [← hY3] at hc3 ho3 ⊢
    obtain ⟨l3, hl3⟩ : ∃ l3, l3 = Y3.length := ⟨_, rfl⟩
    rw [← hl3] at hc3 ho3 ⊢
    have hl3b : 1 ≤ l3 ∧ l3 ≤ 20 := by have h1 := HL2.out; have h2 := enc_bd now; rw [hl3, hY3, List.length_append]; omega
    have HO3 := Lib.hid ho3
    have HL3 := Lib.hid hl3
    have HY3 := Lib.hid hY3
    clear hl3 hY3 ho3
    have hb13 : Below W1.heap.size W1 w3 := bthen hb12 hb3
    refine hK.out _ _ (hb13) (fun hHeld => ?_)
    clear hK K
    (try simp only [Act.put, List.setIfInBounds_toArray, List.set_cons_zero, List.set_cons_succ])
    refine take_want (i := 4) (v := ?v4k1) rfl (by kernel_rfl) (by kernel_rfl) (by kernel_rfl) (fun _ _ _ h => h) (by rfl) ?y4k1 (by assumption) ?r4k1
    case y4k1 => (intro w hSw; go_simp; all_goals with_reducible rfl)
    (try simp only [Act.put, List.setIfInBounds_toArray, List.set_cons_zero, List.set_cons_succ])
    refine take_want (i := 5) (v := ?v5k1) rfl (by kernel_rfl) (by kernel_rfl) (by kernel_rfl) (fun _ _ _ h => h) (by rfl) ?y5k1 (by assumption) ?r5k1
    case y5k1 => (intro w hSw; go_simp; all_goals with_reducible rfl)
    (try simp only [Act.put, List.setIfInBounds_toArray, List.set_cons_zero, List.set_cons_succ])
    refine wpAnyH_done (by kernel_rfl) ?_ _
    go_wp2_with fail
    refine bodyPost_ret (v := .tuple #[.slice (some ⟨g3, 0, none⟩) l3 k3, .int .i64 0]) (by simp [results, Tryd.results19, go_sem]) rfl ?_
    have he : Y3 = encJ ⟨true, now, ⟨E, p, q, F, x, y, t, D, X⟩⟩ := by rw [HY3.out, HEJ.out, HY2.out, List.nil_append]
    rw [HL3.out, he] at hc3 ⊢
    exact .inr ⟨HRJ.out, g3, k3, rfl, hc3, own_less (by have := HO3.out; rw [HL3.out, he] at this; exact this) (by have h1 := HB1.out.size; have h2 := hb12.size; omega), bthen HB1.out hb13⟩
  | false =>
    have HOKL := Lib.hid (show now = 0 ∧ EvOk L M D X t by
      have h := HRJ.out
      unfold rightJ at h
      simpa using h)
    have HLO := Lib.hid (show -9223372036854775808 ≤ t ∧ t ≤ 9223372036854775807 by
      have h1 := HOKL.out.2.t0; have h2 := HOKL.out.2.t1; omega)
    have HEJ := Lib.hid (show encJ ⟨false, now, ⟨E, p, q, F, x, y, t, D, X⟩⟩ = encV 0 ++ encV t ++ (D.map encT).flatten ++ (X.map encV).flatten by unfold encJ; rw [if_neg (by simp)])
    have HPD := Lib.hid (show p = D.length from HZ.out.nd)
    have HXD := Lib.hid (show x = X.length from HZ.out.nx)
    have HSD := Lib.hid (show ∀ s ∈ D, s.size ≤ 24 from fun s hs => (HOKL.out.2.dv s hs).1)
    have HXB := Lib.hid (show ∀ v ∈ X, -9223372036854775808 ≤ v ∧ v ≤ 9223372036854775807 from fun v hv => by
      have h := HOKL.out.2.xv v hv
      unfold greatZ at h
      omega)
    have hp1 : p ≤ 1000 := by have h1 := HPD.out; have h2 := HOKL.out.2.dl; have h3 := HNL.out; omega
    have hx1 : x ≤ 1000 := by have h1 := HXD.out; have h2 := HOKL.out.2.xl; have h3 := HML.out; omega
    have HRD := Lib.hid (show Row W1 E (texts D) from HZ.out.rd.keep (Nat.le_refl _) HB1.out)
    have HRX := Lib.hid (show Row W1 F (intsV X) from HZ.out.rx.keep (Nat.le_refl _) HB1.out)
    have hbw := HB1.out.size
    go_upto_region 5 with fail
    clear e0 e1 e2 e3 e4
    refine wp_region_held_drew (S := fun W => Below W1.heap.size W1 W) (by kernel_rfl) (below_drewN (Below.refl _ _) 1) ?_
    intro hHeld
    refine take_want (i := 1) (v := ?v1k2) rfl (by kernel_rfl) (by kernel_rfl) (by kernel_rfl) (fun _ _ _ h => h) (by rfl) ?y1k2 (by assumption) ?r1k2
    case y1k2 => (intro w hSw; obtain ⟨q0, q1, q2, q3, q4⟩ := HCEL.out w hSw; go_simp; all_goals with_reducible rfl)
    (try simp only [Act.put, List.setIfInBounds_toArray, List.set_cons_zero, List.set_cons_succ])
    refine take_want (i := 2) (v := ?v2k2) rfl (by kernel_rfl) (by kernel_rfl) (by kernel_rfl) (fun _ _ _ h => h) (by rfl) ?y2k2 (by assumption) ?r2k2
    case y2k2 => (intro w hSw; obtain ⟨q0, q1, q2, q3, q4⟩ := HCEL.out w hSw; go_simp; all_goals with_reducible rfl)
    (try simp only [Act.put, List.setIfInBounds_toArray, List.set_cons_zero, List.set_cons_succ])
    refine take_want (i := 3) (v := ?v3k2) rfl (by kernel_rfl) (by kernel_rfl) (by kernel_rfl) (fun _ _ _ h => h) (by rfl) ?y3k2 (by assumption) ?r3k2
    case y3k2 => (intro w hSw; obtain ⟨q0, q1, q2, q3, q4⟩ := HCEL.out w hSw; go_simp; all_goals with_reducible rfl)
    (try simp only [Act.put, List.setIfInBounds_toArray, List.set_cons_zero, List.set_cons_succ])
    refine wpAnyH_ready (rs := [0]) (by kernel_rfl) (by simp) ?_
    refine AllReadyH.cons rfl (fun K hK => ?_) AllReadyH.nil
    go_simp
    (go_at_call 40; refine (int_any none 0 0 [] 0 _ (.inl rfl) (by omega) rfl (by omega) (by omega) (by omega)).mono ?_; rintro e w2 ⟨g2, k2, rfl, hc2, ho2, hb2⟩)
    have hb12 : Below W1.heap.size W1 w2 := bthen hHeld hb2
    obtain ⟨Y2, hY2⟩ : ∃ Y2, Y2 = [] ++ encV 0 := ⟨_, rfl⟩
    rw [← hY2] at hc2 ho2 ⊢
    obtain ⟨l2, hl2⟩ : ∃ l2, l2 = Y2.length := ⟨_, rfl⟩
    rw [← hl2] at hc2 ho2 ⊢
    have hl2b : 1 ≤ l2 ∧ l2 ≤ 10 := by rw [hl2, hY2, List.nil_append]; exact enc_bd 0
    have HR2 := Lib.hid (row_own ho2)
    have HL2 := Lib.hid hl2
    have HY2 := Lib.hid hY2
    clear hl2 hY2 ho2
    refine hK.out _ _ (hb12) (fun hHeld => ?_)
    clear hK K
    (try simp only [Act.put, List.setIfInBounds_toArray, List.set_cons_zero, List.set_cons_succ])
    refine wpAnyH_ready (rs := [4]) (by kernel_rfl) (by simp) ?_
    refine AllReadyH.cons rfl (fun K hK => ?_) AllReadyH.nil
    go_simp
    (go_at_call 40; refine (int_any (some ⟨g2, 0, none⟩) l2 k2 Y2 t w2 HR2.out (by omega) HL2.out hc2 HLO.out.1 HLO.out.2).mono ?_; rintro e w3 ⟨g3, k3, rfl, hc3, ho3, hb3⟩)
    obtain ⟨Y3, hY3⟩ : ∃ Y3, Y3 = Y2 ++ encV t := ⟨_, rfl⟩
    rw [← hY3] at hc3 ho3 ⊢
    obtain ⟨l3, hl3⟩ : ∃ l3, l3 = Y3.length := ⟨_, rfl⟩
    rw [← hl3] at hc3 ho3 ⊢
    have hl3b : 1 ≤ l3 ∧ l3 ≤ 20 := by have h1 := HL2.out; have h2 := enc_bd t; rw [hl3, hY3, List.length_append]; omega
    have HO3 := Lib.hid ho3
    have HL3 := Lib.hid hl3
    have HY3 := Lib.hid hY3
    clear hl3 hY3 ho3
    have hb13 : Below W1.heap.size W1 w3 := bthen hb12 hb3
    refine hK.out _ _ (hb13) (fun hHeld => ?_)
    clear hK K
    (try simp only [Act.put, List.setIfInBounds_toArray, List.set_cons_zero, List.set_cons_succ])
    refine take_want (i := 5) (v := ?v5k2) rfl (by kernel_rfl) (by kernel_rfl) (by kernel_rfl) (fun _ _ _ h => h) (by rfl) ?y5k2 (by assumption) ?r5k2
    case y5k2 => (intro w hSw; go_simp; all_goals with_reducible rfl)
    (try simp only [Act.put, List.setIfInBounds_toArray, List.set_cons_zero, List.set_cons_succ])
    refine wpAnyH_done (by kernel_rfl) ?_ _
    obtain ⟨e0, e1, e2, e3, e4⟩ := HCEL.out w3 hb13
    have HO4 := Lib.hid (own_less HO3.out (show W1.heap.size ≤ _ by exact hb12.size))
    have HB3 := Lib.hid hb13
    clear hb13 hb12 hb2 hb3 hc2
    go_wp2_with fail
    go_loopw [6, 8, 30] (fun v sv i wr => ∃ (k g kc l : Nat) (acc : List Int), k ≤ p ∧ i = .int .i64 k ∧ v = .slice (some ⟨g, 0, none⟩) l kc ∧ l ≤ kc ∧ 1 ≤ l ∧ l ≤ 20 + 34 * k ∧ Hid (wr.ownsRow W1.heap.size 5 1 (.slice (some ⟨g, 0, none⟩) l kc) l (acc.map (Value.int .u8))) ∧ Hid (Below W1.heap.size W1 wr) ∧ Hid (acc = encV 0 ++ encV t ++ ((D.take k).map encT).flatten)) (fun _ _ i _ => p - (intOf i).toNat)
    case atStart => exact ⟨0, g3, k3, l3, Y3, Nat.zero_le _, rfl, rfl, hc3, hl3b.1, by omega, HO4, HB3, Lib.hid (by rw [HY3.out, HY2.out]; simp)⟩
    case round =>
      obtain ⟨k, g, kc, l, acc, hk, rfl, rfl, hlk, hl1, hl2, HO, HBW, HA⟩ := hrel
      have hln : l = acc.length := by have := HO.out.1; simp at this; exact this.symm
      have HLA := Lib.hid hln
      clear hln
      by_cases hlt : k < p
      · have hkz : k < D.length := by have := HPD.out; omega
        have hki : (k : Int) < (p : Int) := by omega
        have hk0 : (0 : Int) ≤ (k : Int) := by omega
        obtain ⟨b, off, hAe, c0⟩ := text_cell (HRD.out.keep (Nat.le_refl _) HBW.out) hkz
        obtain ⟨s, hs⟩ : ∃ s, s = D[k] := ⟨_, rfl⟩
        rw [← hs] at c0
        have hsz : s.size ≤ 24 := by rw [hs]; exact HSD.out _ (List.getElem_mem _)
        have HTK := Lib.hid (show D.take (k + 1) = D.take k ++ [s] by rw [hs]; exact take_snoc D k hkz)
        have HROW := Lib.hid (row_own HO.out)
        subst hAe
        clear hs
        go_wp2_with fail
        refine (text_any (some ⟨g, 0, none⟩) l kc acc s _ HROW.out (by omega) HLA.out hlk (by omega)).mono ?_
        rintro e w4 ⟨g4, k4, rfl, hc4, ho4, hb4⟩
        obtain ⟨l4, hl4⟩ : ∃ l4, l4 = (acc ++ encV s.size ++ sB s).length := ⟨_, rfl⟩
        rw [← hl4] at hc4 ho4 ⊢
        have h4b : 1 ≤ l4 ∧ l4 ≤ l + 34 := by
          have h1 := enc_bd (s.size : Nat)
          have h2 := sB_length s
          have h3 := HLA.out
          rw [hl4]; simp only [List.length_append]; omega
        have HO4 := Lib.hid (own_less ho4 (show W1.heap.size ≤ _ by exact HBW.out.size))
        have HB4 := Lib.hid (bthen HBW.out hb4)
        have HA4 := Lib.hid (show acc ++ encV s.size ++ sB s = encV 0 ++ encV t ++ ((D.take (k + 1)).map encT).flatten by
          rw [HTK.out, List.map_append, List.flatten_append, HA.out]
          simp [encT])
        clear ho4 hb4 hl4
        go_wp2_with fail
        go_roundw
        case rel => exact ⟨k + 1, g4, k4, l4, acc ++ encV s.size ++ sB s, by omega, by go_num, rfl, hc4, h4b.1, by omega, HO4, HB4, HA4⟩
        case measure => simp [intOf]; omega
      · have hge : ¬ (k : Int) < (p : Int) := by omega
        have HA1 := Lib.hid (show acc = encV 0 ++ encV t ++ (D.map encT).flatten by
          rw [HA.out, List.take_of_length_le (by have := HPD.out; omega)])
        obtain ⟨e0, e1, e2, e3, e4⟩ := HCEL.out wr HBW.out
        obtain ⟨wo, rfl⟩ : ∃ wo : World, wo = wr := ⟨_, rfl⟩
        obtain ⟨b0, hb0⟩ : ∃ b0, b0 = acc := ⟨_, rfl⟩
        have hlb : l ≤ 34020 := by omega
        clear hlt HA hk hl2
        go_wp2_with fail
        go_loopw [6, 10, 42] (fun v sv i wr => ∃ (k g kc l : Nat) (acc : List Int), k ≤ x ∧ i = .int .i64 k ∧ v = .slice (some ⟨g, 0, none⟩) l kc ∧ l ≤ kc ∧ 1 ≤ l ∧ l ≤ 34020 + 10 * k ∧ Hid (wr.ownsRow W1.heap.size 5 1 (.slice (some ⟨g, 0, none⟩) l kc) l (acc.map (Value.int .u8))) ∧ Hid (Below W1.heap.size W1 wr) ∧ Hid (acc = encV 0 ++ encV t ++ (D.map encT).flatten ++ ((X.take k).map encV).flatten)) (fun _ _ i _ => x - (intOf i).toNat)
        case atStart => exact ⟨0, g, kc, l, acc, Nat.zero_le _, rfl, rfl, hlk, hl1, by omega, HO, HBW, Lib.hid (by rw [HA1.out]; simp)⟩
        case round =>
          obtain ⟨j, g5, kc5, l5, acc5, hj, rfl, rfl, hlk5, hl5, hl6, HO5, HBW5, HA5⟩ := hrel
          have hln5 : l5 = acc5.length := by have := HO5.out.1; simp at this; exact this.symm
          have HLA5 := Lib.hid hln5
          clear hln5
          by_cases hlt : j < x
          · have hjz : j < X.length := by have := HXD.out; omega
            have hji : (j : Int) < (x : Int) := by omega
            have hj0 : (0 : Int) ≤ (j : Int) := by omega
            obtain ⟨b, off, hAe, c0⟩ := (HRX.out.keep (Nat.le_refl _) HBW5.out).cell hjz
            obtain ⟨n5, hn5⟩ : ∃ n5, n5 = X[j] := ⟨_, rfl⟩
            rw [← hn5] at c0
            have hnb := HXB.out n5 (by rw [hn5]; exact List.getElem_mem _)
            have HTK := Lib.hid (show X.take (j + 1) = X.take j ++ [n5] by rw [hn5]; exact take_snoc X j hjz)
            have HROW := Lib.hid (row_own HO5.out)
            subst hAe
            clear hn5
            go_wp2_with fail
            refine (int_any (some ⟨g5, 0, none⟩) l5 kc5 acc5 n5 _ HROW.out (by omega) HLA5.out hlk5 hnb.1 hnb.2).mono ?_
            rintro e w4 ⟨g4, k4, rfl, hc4, ho4, hb4⟩
            obtain ⟨l4, hl4⟩ : ∃ l4, l4 = (acc5 ++ encV n5).length := ⟨_, rfl⟩
            rw [← hl4] at hc4 ho4 ⊢
            have h4b : 1 ≤ l4 ∧ l4 ≤ l5 + 10 := by
              have h1 := enc_bd n5
              have h3 := HLA5.out
              rw [hl4]; simp only [List.length_append]; omega
            have HO4 := Lib.hid (own_less ho4 (show W1.heap.size ≤ _ by exact HBW5.out.size))
            have HB4 := Lib.hid (bthen HBW5.out hb4)
            have HA4 := Lib.hid (show acc5 ++ encV n5 = encV 0 ++ encV t ++ (D.map encT).flatten ++ ((X.take (j + 1)).map encV).flatten by
              rw [HTK.out, List.map_append, List.flatten_append, HA5.out]
              simp)
            clear ho4 hb4 hl4
            go_wp2_with fail
            go_roundw
            case rel => exact ⟨j + 1, g4, k4, l4, acc5 ++ encV n5, by omega, by go_num, rfl, hc4, h4b.1, by omega, HO4, HB4, HA4⟩
            case measure => simp [intOf]; omega
          · have hge : ¬ (j : Int) < (x : Int) := by omega
            have HA6 := Lib.hid (show encJ ⟨false, now, ⟨E, p, q, F, x, y, t, D, X⟩⟩ = acc5 by
              rw [HEJ.out, HA5.out, List.take_of_length_le (by have := HXD.out; omega)])
            clear hlt
            go_wp2_with fail
            refine bodyPost_ret (v := .tuple #[.slice (some ⟨g5, 0, none⟩) l5 kc5, .int .i64 0]) (by simp [results, Tryd.results19, go_sem]) rfl ?_
            refine .inr ⟨HRJ.out, g5, kc5, ?_, ?_, ?_, bthen HB1.out HBW5.out⟩
            · rw [HA6.out, ← HLA5.out]
            · rw [HA6.out, ← HLA5.out]; exact hlk5
            · rw [HA6.out, ← HLA5.out]; exact own_less HO5.out hbw
end Go.Proofs.YthogafecplhckaaDoor
