/- The document's Right (15). The document's Encode (61). What the document's Decode reads: plain facts; an entry as it is being read. The document's Decode (32). -/
import Derived.Test.YthogafecplhckaaDoorNB
import Derived.Test.YthogafecplhckaaDoorVFK
import Derived.Test.YthogafecplhckaaDoorGT
import Derived.Test.YthogafecplhckaaDoorNF
import Derived.Test.YthogafecplhckaaDoorZAE
import Derived.Test.YthogafecplhckaaDoorCIZ
namespace Go.Proofs.YthogafecplhckaaDoor
open Go.RowKit
set_option linter.unusedSimpArgs false
set_option linter.unusedVariables false
set_option maxRecDepth 100000 in
set_option maxHeartbeats 8000000 in
theorem refjright_any (A B : Option Addr) (n c m d : Nat) (L M : List ByteArray) (z : EZ) (w : World) (hz : EvG w z.ev) (hn : n = L.length) (hm : m = M.length) (hp2 : z.ev.p ≤ 9223372036854775807) (hx2 : z.ev.x ≤ 9223372036854775807) (r : Bool) (hr : r = true ↔ rightJ L M z) :
    Calls Tryd.prog 15 #[.agg #[.slice A n c, .slice B m d], z.arg] w fun e w' => e = .returned (.bool r) ∧ Below w.heap.size w w' := by
  obtain ⟨tick, now, ⟨E, p, q, F, x, y, t, D, X⟩⟩ := z
  obtain ⟨W0, hW0⟩ : ∃ W0, W0 = (w.alloc (.cells #[.slice A n c, .slice B m d] 24)).alloc (.cells #[.bool tick, .int .i64 now, .int .i64 t, .slice E p q, .slice F x y] 46) := ⟨_, rfl⟩
  have hb0 : Below w.heap.size w W0 := by rw [hW0]; exact bpush (bpush (Below.refl _ _) _) _
  have s0 : W0.cell? ⟨w.heap.size, 0, none⟩ = some (.slice A n c) := by rw [hW0]; exact cell_on (bpush (Below.refl _ _) _) (cell_made rfl rfl)
  have s1 : W0.cell? ⟨w.heap.size, 1, none⟩ = some (.slice B m d) := by rw [hW0]; exact cell_on (bpush (Below.refl _ _) _) (cell_made rfl rfl)
  have e0 : W0.cell? ⟨w.heap.size + 1, 0, none⟩ = some (.bool tick) := by rw [hW0]; exact cell_made (by simp) rfl
  have e1 : W0.cell? ⟨w.heap.size + 1, 1, none⟩ = some (.int .i64 now) := by rw [hW0]; exact cell_made (by simp) rfl
  have e2 : W0.cell? ⟨w.heap.size + 1, 2, none⟩ = some (.int .i64 t) := by rw [hW0]; exact cell_made (by simp) rfl
  have e3 : W0.cell? ⟨w.heap.size + 1, 3, none⟩ = some (.slice E p q) := by rw [hW0]; exact cell_made (by simp) rfl
  have e4 : W0.cell? ⟨w.heap.size + 1, 4, none⟩ = some (.slice F x y) := by rw [hW0]; exact cell_made (by simp) rfl
  obtain ⟨v, hv⟩ := check_ex L M D X t
  have hzk := hz.keep (Nat.le_refl _) hb0
  have HC := Lib.hid (refcheck_any A B E F n c m d p q x y t L M D X W0 hzk.rd hzk.rx hn hm hz.nd hz.nx hz.sd hp2 hx2 v hv)
  have HP := Lib.hid (show p = D.length from hz.nd)
  have HX := Lib.hid (show x = X.length from hz.nx)
  have HR := Lib.hid (show r = true ↔ rightJ L M ⟨tick, now, ⟨E, p, q, F, x, y, t, D, X⟩⟩ from hr)
  have HV := Lib.hid hv
  have HB0 := Lib.hid hb0
  have HW0 := Lib.hid hW0
  clear hz hzk hn hm hp2 hx2 hr hv hW0 hb0
  go_enter Tryd.func15, Tryd.ntmps15
  go_upto_region 1 with fail
  rw [← HW0.out]
  clear HW0
  cases tick with
  | true =>
    have hrj : r = true ↔ (t = 0 ∧ D = [] ∧ X = [] ∧ 0 ≤ now ∧ now ≤ 1099511627776) := by
      rw [HR.out]; unfold rightJ; simp
    have HJ := Lib.hid hrj
    clear hrj HR HC HV s0 s1
    by_cases h4 : 0 ≤ now
    case neg =>
      obtain rfl : r = false := by
        cases r with
        | false => rfl
        | true => exact absurd (HJ.out.1 rfl).2.2.2.1 h4
      have z4 : decide (0 ≤ now) = false := by simp; omega
      clear h4
      go_wp2_with fail
      go_ret
      exact ⟨rfl, HB0.out⟩
    case pos =>
    have z4 : decide (0 ≤ now) = true := by simp; omega
    by_cases h5 : now ≤ 1099511627776
    case neg =>
      obtain rfl : r = false := by
        cases r with
        | false => rfl
        | true => exact absurd (HJ.out.1 rfl).2.2.2.2 h5
      have z5 : decide (now ≤ 1099511627776) = false := by simp; omega
      clear h4 h5
      go_wp2_with fail
      go_ret
      exact ⟨rfl, HB0.out⟩
    case pos =>
    have z5 : decide (now ≤ 1099511627776) = true := by simp; omega
    have HNW := Lib.hid (show 0 ≤ now ∧ now ≤ 1099511627776 from ⟨h4, h5⟩)
    clear h4 h5
    by_cases h1 : t = 0
    case neg =>
      obtain rfl : r = false := by
        cases r with
        | false => rfl
        | true => exact absurd (HJ.out.1 rfl).1 h1
      have z1 : (t == 0) = false := by rw [beq_eq_false_iff_ne]; exact h1
      clear h1
      go_wp2_with fail
      go_ret
      exact ⟨rfl, HB0.out⟩
    case pos =>
    have z1 : (t == 0) = true := by rw [beq_iff_eq]; exact h1
    by_cases h2 : p = 0
    case neg =>
      obtain rfl : r = false := by
        cases r with
        | false => rfl
        | true => have h := (HJ.out.1 rfl).2.1; have := HP.out; rw [h] at this; exact absurd this h2
      have z2 : ((p : Int) == 0) = false := by rw [beq_eq_false_iff_ne]; omega
      have HT := Lib.hid h1
      clear h1 h2
      go_wp2_with fail
      go_ret
      exact ⟨rfl, HB0.out⟩
    case pos =>
    have z2 : ((p : Int) == 0) = true := by rw [beq_iff_eq]; omega
    by_cases h3 : x = 0
    case neg =>
      obtain rfl : r = false := by
        cases r with
        | false => rfl
        | true => have h := (HJ.out.1 rfl).2.2.1; have := HX.out; rw [h] at this; exact absurd this h3
      have z3 : ((x : Int) == 0) = false := by rw [beq_eq_false_iff_ne]; omega
      have HT := Lib.hid h1
      clear h1 h2 h3
      go_wp2_with fail
      go_ret
      exact ⟨rfl, HB0.out⟩
    case pos =>
      have z3 : ((x : Int) == 0) = true := by rw [beq_iff_eq]; omega
      have hD : D = [] := List.eq_nil_of_length_eq_zero (by have := HP.out; omega)
      have hX : X = [] := List.eq_nil_of_length_eq_zero (by have := HX.out; omega)
      obtain rfl : r = true := HJ.out.2 ⟨h1, hD, hX, HNW.out.1, HNW.out.2⟩
      clear h1 h2 h3 hD hX
      go_wp2_with fail
      go_ret
      exact ⟨rfl, HB0.out⟩
  | false =>
    have hrj : r = true ↔ (now = 0 ∧ EvOk L M D X t) := by
      rw [HR.out]; unfold rightJ; simp
    have HJ := Lib.hid hrj
    clear hrj HR
    by_cases h1 : now = 0
    case neg =>
      obtain rfl : r = false := by
        cases r with
        | false => rfl
        | true => exact absurd (HJ.out.1 rfl).1 h1
      have z1 : (now == 0) = false := by rw [beq_eq_false_iff_ne]; exact h1
      clear h1
      go_wp2_with fail
      go_ret
      exact ⟨rfl, HB0.out⟩
    case pos =>
    have z1 : (now == 0) = true := by rw [beq_iff_eq]; exact h1
    have HN := Lib.hid h1
    clear h1
    by_cases h2 : v = 0
    case neg =>
      obtain rfl : r = false := by
        cases r with
        | false => rfl
        | true => exact absurd ((HJ.out.1 rfl).2.check HV.out) h2
      have z2 : (v == 0) = false := by rw [beq_eq_false_iff_ne]; exact h2
      clear h2
      go_wp2_with (go_at_call 34; refine HC.out.mono ?_; rintro e w1 ⟨rfl, hb1⟩)
      go_ret
      exact ⟨rfl, bthen HB0.out hb1⟩
    case pos =>
      obtain rfl : r = true := HJ.out.2 ⟨HN.out, HV.out.ok h2⟩
      have z2 : (v == 0) = true := by rw [beq_iff_eq]; exact h2
      clear h2
      go_wp2_with (go_at_call 34; refine HC.out.mono ?_; rintro e w1 ⟨rfl, hb1⟩)
      go_ret
      exact ⟨rfl, bthen HB0.out hb1⟩
end Go.Proofs.YthogafecplhckaaDoor
namespace Go.Proofs.YthogafecplhckaaDoor
open Go.RowKit Go.Maps
set_option linter.unusedSimpArgs false
set_option linter.unusedVariables false
theorem oper_app_u8s {w : World} {o : Oper} {a : Act} {K : Act → World → Prop} {Q : Exit → Act → World → Prop} (s x : Operand)
    (ho : o.op = .call { callee := .builtin .append, args := #[s, x], argTypes := #[25, 25] })
    (base : Nat) (v : Value) (n : Nat) (xs : List Value) (hs : a.eval s = v) (A : Option Addr) (m c : Nat) (M : List Int) (hx : a.eval x = .slice A m c) (hown : w.ownsRow base 5 1 v n xs)
    (hrow : Row w A (u8s M)) (hm : m = M.length) (hmc : m ≤ c) (ha : A = none → c = 0) (h63 : (n + m) * 1 ≤ 140737488355328) (hbase : base ≤ w.heap.size)
    (h : ∀ v' w', w'.ownsRow base 5 1 v' (n + m) (xs ++ u8s M) → Below base w w' → K (a.put o.dst v') w') :
    o.wp Tryd.prog a w K Q := by
  obtain ⟨v', w', hr, h2, h3, h4⟩ := run_append_u8s w o.type base v n xs hown A m c M hrow hm hmc ha h63 hbase
  unfold Oper.wp execOp
  simp only [ho, resolve, invoke, builtin, Sem.run_bind, Sem.run_pure, Result.andThen_ok, List.map_toArray, List.map_cons, List.map_nil, hs, hx, hr]
  exact h v' w' h2 ((Below.refl _ _).grown h3 hbase (fun g hg => (hown.lt g hg).1))
theorem own_head {B : Nat} {w : World} {v : Value} {n : Nat} {xs : List Value} (h : w.ownsRow B 5 1 v n xs) (hn : 0 < n) : ∃ g cap, v = .slice (some ⟨g, 0, none⟩) n cap ∧ n ≤ cap := by
  rcases h.2 with ⟨_, h0⟩ | ⟨g, cap, cur, rfl, _, _, hc, _⟩
  · omega
  · exact ⟨g, cap, rfl, hc⟩
theorem EncPost.of {w W w' : World} {L M : List ByteArray} {z : EZ} {v : Value} {n : Nat} {xs : List Int} (hr : rightJ L M z) (he : xs = encJ z) (ho : w'.ownsRow W.heap.size 5 1 v n (u8s xs)) (hn : 0 < n) (hb1 : Below w.heap.size w W) (hb : Below W.heap.size W w') :
    EncPost w L M z (.returned (.tuple #[v, .int .i64 0])) w' := by
  obtain ⟨g, cap, rfl, hc⟩ := own_head ho hn
  have hln : n = (encJ z).length := by have := ho.1; rw [u8s_len, he] at this; omega
  subst hln
  rw [he] at ho
  exact .inr ⟨hr, g, cap, rfl, hc, own_less ho hb1.size, bthen hb1 hb⟩
set_option maxRecDepth 100000 in
set_option maxHeartbeats 16000000 in
theorem refencode_any (A B : Option Addr) (n c m d : Nat) (L M : List ByteArray) (z : EZ) (w : World) (hz : EvG w z.ev) (hn : n = L.length) (hm : m = M.length) (hn2 : n ≤ 1000) (hm2 : m ≤ 1000) (hp2 : z.ev.p ≤ 9223372036854775807) (hx2 : z.ev.x ≤ 9223372036854775807) :
    Calls Tryd.prog 61 #[.agg #[.slice A n c, .slice B m d], z.arg] w (EncPost w L M z) := by
  obtain ⟨r, hr⟩ := bool_of (rightJ L M z)
  obtain ⟨tick, now, ⟨E, p, q, F, x, y, t, D, X⟩⟩ := z
  obtain ⟨W0, hW0⟩ : ∃ W0, W0 = (w.alloc (.cells #[.slice A n c, .slice B m d] 24)).alloc (.cells #[.bool tick, .int .i64 now, .int .i64 t, .slice E p q, .slice F x y] 46) := ⟨_, rfl⟩
  have hb0 : Below w.heap.size w W0 := by rw [hW0]; exact bpush (bpush (Below.refl _ _) _) _
  have s0 : W0.cell? ⟨w.heap.size, 0, none⟩ = some (.slice A n c) := by rw [hW0]; exact cell_on (bpush (Below.refl _ _) _) (cell_made rfl rfl)
  have s1 : W0.cell? ⟨w.heap.size, 1, none⟩ = some (.slice B m d) := by rw [hW0]; exact cell_on (bpush (Below.refl _ _) _) (cell_made rfl rfl)
  have HC0 := Lib.hid (show ∀ W, Below W0.heap.size W0 W → W.cell? ⟨w.heap.size + 1, 0, none⟩ = some (.bool tick) ∧ W.cell? ⟨w.heap.size + 1, 1, none⟩ = some (.int .i64 now) ∧ W.cell? ⟨w.heap.size + 1, 2, none⟩ = some (.int .i64 t) ∧ W.cell? ⟨w.heap.size + 1, 3, none⟩ = some (.slice E p q) ∧ W.cell? ⟨w.heap.size + 1, 4, none⟩ = some (.slice F x y) from fun W hW => ⟨cell_on hW (by rw [hW0]; exact cell_made (by simp) rfl), cell_on hW (by rw [hW0]; exact cell_made (by simp) rfl), cell_on hW (by rw [hW0]; exact cell_made (by simp) rfl), cell_on hW (by rw [hW0]; exact cell_made (by simp) rfl), cell_on hW (by rw [hW0]; exact cell_made (by simp) rfl)⟩)
  have HRC := Lib.hid (refjright_any A B n c m d L M ⟨tick, now, ⟨E, p, q, F, x, y, t, D, X⟩⟩ W0 (hz.keep (Nat.le_refl _) hb0) hn hm hp2 hx2 r hr)
  have HZ := Lib.hid hz
  have HR := Lib.hid hr
  have HB0 := Lib.hid hb0
  have HW0 := Lib.hid hW0
  have HNL := Lib.hid hn
  have HML := Lib.hid hm
  obtain ⟨e0, e1, e2, e3, e4⟩ := HC0.out W0 (Below.refl _ _)
  clear hz hn hm hp2 hx2 hr hW0 hb0
  go_enter Tryd.func61, Tryd.ntmps61
  go_upto_region 1 with fail
  rw [← HW0.out]
  clear HW0
  cases r with
  | false =>
    have hnr : ¬ rightJ L M ⟨tick, now, ⟨E, p, q, F, x, y, t, D, X⟩⟩ := fun h => by have := HR.out.2 h; cases this
    have HNR := Lib.hid hnr
    clear hnr HR
    go_wp2_with (go_at_call 15; refine HRC.out.mono ?_; rintro e w1 ⟨rfl, hb1⟩)
    refine bodyPost_ret (v := .tuple #[.slice none 0 0, .int .i64 191]) (by simp [results, Tryd.results61, go_sem]) rfl ?_
    exact .inl ⟨HNR.out, rfl, bthen HB0.out hb1⟩
  | true =>
  have HRJ := Lib.hid (HR.out.1 rfl)
  clear HR
  go_upto_region 4 with (go_at_call 15; refine HRC.out.mono ?_; rintro e W1 ⟨rfl, hb1⟩)
  have HB1 := Lib.hid (bthen HB0.out hb1)
  have HCEL := Lib.hid (fun W (hW : Below W1.heap.size W1 W) => HC0.out W (hb1.trans (hW.mono hb1.size)))
  clear hb1 HRC e0 e1 e2 e3 e4 s0 s1 HC0
  obtain ⟨e0, e1, e2, e3, e4⟩ := HCEL.out W1 (Below.refl _ _)
  cases tick with
  | true =>
    have HLO := Lib.hid (show -9223372036854775808 ≤ now ∧ now ≤ 9223372036854775807 by
      have h := HRJ.out
      unfold rightJ at h
      simp at h
      omega)
    have HEJ := Lib.hid (show encJ ⟨true, now, ⟨E, p, q, F, x, y, t, D, X⟩⟩ = encV 1 ++ encV now by unfold encJ; rw [if_pos rfl])
    go_upto_region 5 with fail
    clear e0 e1 e2 e3 e4
    refine wp_region_held_drew (S := fun W => Below W1.heap.size W1 W) (by kernel_rfl) (below_drewN (Below.refl _ _) 1) ?_
    intro hHeld
    refine take_want (i := 1) (v := ?v1k1) rfl (by kernel_rfl) (by kernel_rfl) (by kernel_rfl) (fun _ _ _ h => h) (by rfl) ?y1k1 (by assumption) ?r1k1
    case y1k1 => (intro w hSw; obtain ⟨q0, q1, q2, q3, q4⟩ := HCEL.out w hSw; go_simp; all_goals with_reducible rfl)
    (try simp only [Act.put, List.setIfInBounds_toArray, List.set_cons_zero, List.set_cons_succ])
    refine take_want (i := 2) (v := ?v2k1) rfl (by kernel_rfl) (by kernel_rfl) (by kernel_rfl) (fun _ _ _ h => h) (by rfl) ?y2k1 (by assumption) ?r2k1
    case y2k1 => (intro w hSw; obtain ⟨q0, q1, q2, q3, q4⟩ := HCEL.out w hSw; go_simp; all_goals with_reducible rfl)
    (try simp only [Act.put, List.setIfInBounds_toArray, List.set_cons_zero, List.set_cons_succ])
    refine wpAnyH_ready (rs := [0]) (by kernel_rfl) (by simp) ?_
    refine AllReadyH.cons rfl (fun K hK => ?_) AllReadyH.nil
    go_simp
    (go_at_call 63; refine (refint_any 1 _ (by omega) (by omega)).mono ?_; rintro e w2 ⟨ga, ka, rfl, hca, hoa, hba⟩)
    obtain ⟨Ya, hYa⟩ : ∃ Ya, Ya = encV 1 := ⟨_, rfl⟩
    rw [← hYa] at hca hoa ⊢
    obtain ⟨la, hla⟩ : ∃ la, la = Ya.length := ⟨_, rfl⟩
    rw [← hla] at hca hoa ⊢
    have hlab : 1 ≤ la ∧ la ≤ 10 := by rw [hla, hYa]; exact enc_bd _
    have HBDa := Lib.hid (show Below W1.heap.size W1 w2 from bthen hHeld hba)
    have HOa := Lib.hid (show w2.ownsRow W1.heap.size 5 1 (.slice (some ⟨ga, 0, none⟩) la ka) la (u8s Ya) from own_less hoa (by exact (hHeld).size))
    have HLa := Lib.hid hla
    have HYa := Lib.hid hYa
    have HSa := Lib.hid hba
    clear hla hYa hoa
    clear hba
    refine hK.out _ _ HBDa.out (fun hHeld => ?_)
    clear hK K
    (try simp only [Act.put, List.setIfInBounds_toArray, List.set_cons_zero, List.set_cons_succ])
    refine wpAnyH_ready (rs := [3]) (by kernel_rfl) (by simp) ?_
    refine AllReadyH.cons rfl (fun K hK => ?_) AllReadyH.nil
    go_simp
    (go_at_call 63; refine (refint_any now _ HLO.out.1 HLO.out.2).mono ?_; rintro e w3 ⟨gb, kb, rfl, hcb, hob, hbb⟩)
    obtain ⟨Yb, hYb⟩ : ∃ Yb, Yb = encV now := ⟨_, rfl⟩
    rw [← hYb] at hcb hob ⊢
    obtain ⟨lb, hlb⟩ : ∃ lb, lb = Yb.length := ⟨_, rfl⟩
    rw [← hlb] at hcb hob ⊢
    have hlbb : 1 ≤ lb ∧ lb ≤ 10 := by rw [hlb, hYb]; exact enc_bd _
    have HBDb := Lib.hid (show Below W1.heap.size W1 w3 from bthen HBDa.out hbb)
    have HOb := Lib.hid (show w3.ownsRow W1.heap.size 5 1 (.slice (some ⟨gb, 0, none⟩) lb kb) lb (u8s Yb) from own_less hob (by exact (HBDa.out).size))
    have HLb := Lib.hid hlb
    have HYb := Lib.hid hYb
    have HSb := Lib.hid hbb
    clear hlb hYb hob
    have HPa := Lib.hid (own_below HOa.out hbb)
    have HPb := HOb
    have HBD3 := HBDb
    clear hbb
    refine hK.out _ _ HBDb.out (fun hHeld => ?_)
    clear hK K
    (try simp only [Act.put, List.setIfInBounds_toArray, List.set_cons_zero, List.set_cons_succ])
    refine wpAnyH_ready (rs := [4]) (by kernel_rfl) (by simp) ?_
    refine AllReadyH.cons rfl (fun K hK => ?_) AllReadyH.nil
    refine oper_app_u8s _ _ rfl W1.heap.size _ la (u8s Ya) (by first | rfl | (simp; done)) _ lb kb Yb (by first | rfl | (simp; done)) HPa.out (row_own HPb.out) HLb.out hcb (fun h => by cases h) (by omega) (by exact HBD3.out.size) ?_
    intro v4 w4 ho4 hb4
    have HO4 := Lib.hid (show w4.ownsRow W1.heap.size 5 1 v4 (la + lb) (u8s (encV 1 ++ encV now)) from by rw [← HYa.out, ← HYb.out, ← u8s_app]; exact ho4)
    have HB4 := Lib.hid (show Below W1.heap.size W1 w4 from HBD3.out.trans hb4)
    clear ho4 hb4
    refine hK.out _ _ HB4.out (fun hHeld => ?_)
    clear hK K
    (try simp only [Act.put, List.setIfInBounds_toArray, List.set_cons_zero, List.set_cons_succ])
    refine take_want (i := 5) (v := ?v5k1za) rfl (by kernel_rfl) (by kernel_rfl) (by kernel_rfl) (fun _ _ _ h => h) (by rfl) ?y5k1za (by assumption) ?r5k1za
    case y5k1za => (intro w hSw; go_simp; all_goals with_reducible rfl)
    (try simp only [Act.put, List.setIfInBounds_toArray, List.set_cons_zero, List.set_cons_succ])
    refine take_want (i := 6) (v := ?v6k1za) rfl (by kernel_rfl) (by kernel_rfl) (by kernel_rfl) (fun _ _ _ h => h) (by rfl) ?y6k1za (by assumption) ?r6k1za
    case y6k1za => (intro w hSw; go_simp; all_goals with_reducible rfl)
    (try simp only [Act.put, List.setIfInBounds_toArray, List.set_cons_zero, List.set_cons_succ])
    refine wpAnyH_done (by kernel_rfl) ?_ _
    go_wp2_with fail
    refine bodyPost_ret (v := .tuple #[v4, .int .i64 0]) (by simp [results, Tryd.results61, go_sem]) rfl ?_
    exact EncPost.of HRJ.out HEJ.out.symm HO4.out (by omega) HB1.out HB4.out
  | false =>
    have HOKL := Lib.hid (show now = 0 ∧ EvOk L M D X t by
      have h := HRJ.out
      unfold rightJ at h
      simpa using h)
    have HLO := Lib.hid (show -9223372036854775808 ≤ t ∧ t ≤ 9223372036854775807 by
      have h1 := HOKL.out.2.t0; have h2 := HOKL.out.2.t1; omega)
    have HEJ := Lib.hid (show encJ ⟨false, now, ⟨E, p, q, F, x, y, t, D, X⟩⟩ = encV 0 ++ encV t ++ (D.map encT).flatten ++ (X.map encV).flatten by unfold encJ; rw [if_neg (by simp)])
    have HPD := Lib.hid (show p = D.length from HZ.out.nd)
    have HXD := Lib.hid (show x = X.length from HZ.out.nx)
    have HSD := Lib.hid (show ∀ s ∈ D, s.size ≤ 24 from fun s hs => (HOKL.out.2.dv s hs).1)
    have HXB := Lib.hid (show ∀ v ∈ X, -9223372036854775808 ≤ v ∧ v ≤ 9223372036854775807 from fun v hv => by
      have h := HOKL.out.2.xv v hv
      unfold greatZ at h
      omega)
    have hp1 : p ≤ 1000 := by have h1 := HPD.out; have h2 := HOKL.out.2.dl; have h3 := HNL.out; omega
    have hx1 : x ≤ 1000 := by have h1 := HXD.out; have h2 := HOKL.out.2.xl; have h3 := HML.out; omega
    have HRD := Lib.hid (show Row W1 E (texts D) from HZ.out.rd.keep (Nat.le_refl _) HB1.out)
    have HRX := Lib.hid (show Row W1 F (intsV X) from HZ.out.rx.keep (Nat.le_refl _) HB1.out)
    go_upto_region 6 with fail
    clear e0 e1 e2 e3 e4
    refine wp_region_held_drew (S := fun W => Below W1.heap.size W1 W) (by kernel_rfl) (below_drewN (Below.refl _ _) 1) ?_
    intro hHeld
    refine take_want (i := 1) (v := ?v1k2) rfl (by kernel_rfl) (by kernel_rfl) (by kernel_rfl) (fun _ _ _ h => h) (by rfl) ?y1k2 (by assumption) ?r1k2
    case y1k2 => (intro w hSw; obtain ⟨q0, q1, q2, q3, q4⟩ := HCEL.out w hSw; go_simp; all_goals with_reducible rfl)
    (try simp only [Act.put, List.setIfInBounds_toArray, List.set_cons_zero, List.set_cons_succ])
    refine take_want (i := 2) (v := ?v2k2) rfl (by kernel_rfl) (by kernel_rfl) (by kernel_rfl) (fun _ _ _ h => h) (by rfl) ?y2k2 (by assumption) ?r2k2
    case y2k2 => (intro w hSw; obtain ⟨q0, q1, q2, q3, q4⟩ := HCEL.out w hSw; go_simp; all_goals with_reducible rfl)
    (try simp only [Act.put, List.setIfInBounds_toArray, List.set_cons_zero, List.set_cons_succ])
    refine take_want (i := 3) (v := ?v3k2) rfl (by kernel_rfl) (by kernel_rfl) (by kernel_rfl) (fun _ _ _ h => h) (by rfl) ?y3k2 (by assumption) ?r3k2
    case y3k2 => (intro w hSw; obtain ⟨q0, q1, q2, q3, q4⟩ := HCEL.out w hSw; go_simp; all_goals with_reducible rfl)
    (try simp only [Act.put, List.setIfInBounds_toArray, List.set_cons_zero, List.set_cons_succ])
    refine wpAnyH_ready (rs := [0]) (by kernel_rfl) (by simp) ?_
    refine AllReadyH.cons rfl (fun K hK => ?_) AllReadyH.nil
    go_simp
    (go_at_call 63; refine (refint_any 0 _ (by omega) (by omega)).mono ?_; rintro e w2 ⟨ga, ka, rfl, hca, hoa, hba⟩)
    obtain ⟨Ya, hYa⟩ : ∃ Ya, Ya = encV 0 := ⟨_, rfl⟩
    rw [← hYa] at hca hoa ⊢
    obtain ⟨la, hla⟩ : ∃ la, la = Ya.length := ⟨_, rfl⟩
    rw [← hla] at hca hoa ⊢
    have hlab : 1 ≤ la ∧ la ≤ 10 := by rw [hla, hYa]; exact enc_bd _
    have HBDa := Lib.hid (show Below W1.heap.size W1 w2 from bthen hHeld hba)
    have HOa := Lib.hid (show w2.ownsRow W1.heap.size 5 1 (.slice (some ⟨ga, 0, none⟩) la ka) la (u8s Ya) from own_less hoa (by exact (hHeld).size))
    have HLa := Lib.hid hla
    have HYa := Lib.hid hYa
    have HSa := Lib.hid hba
    clear hla hYa hoa
    clear hba
    refine hK.out _ _ HBDa.out (fun hHeld => ?_)
    clear hK K
    (try simp only [Act.put, List.setIfInBounds_toArray, List.set_cons_zero, List.set_cons_succ])
    refine wpAnyH_ready (rs := [4]) (by kernel_rfl) (by simp) ?_
    refine AllReadyH.cons rfl (fun K hK => ?_) AllReadyH.nil
    go_simp
    (go_at_call 63; refine (refint_any t _ HLO.out.1 HLO.out.2).mono ?_; rintro e w3 ⟨gb, kb, rfl, hcb, hob, hbb⟩)
    obtain ⟨Yb, hYb⟩ : ∃ Yb, Yb = encV t := ⟨_, rfl⟩
    rw [← hYb] at hcb hob ⊢
    obtain ⟨lb, hlb⟩ : ∃ lb, lb = Yb.length := ⟨_, rfl⟩
    rw [← hlb] at hcb hob ⊢
    have hlbb : 1 ≤ lb ∧ lb ≤ 10 := by rw [hlb, hYb]; exact enc_bd _
    have HBDb := Lib.hid (show Below W1.heap.size W1 w3 from bthen HBDa.out hbb)
    have HOb := Lib.hid (show w3.ownsRow W1.heap.size 5 1 (.slice (some ⟨gb, 0, none⟩) lb kb) lb (u8s Yb) from own_less hob (by exact (HBDa.out).size))
    have HLb := Lib.hid hlb
    have HYb := Lib.hid hYb
    have HSb := Lib.hid hbb
    clear hlb hYb hob
    have HPa := Lib.hid (own_below HOa.out hbb)
    have HPb := HOb
    have HBD3 := HBDb
    clear hbb
    refine hK.out _ _ HBDb.out (fun hHeld => ?_)
    clear hK K
    (try simp only [Act.put, List.setIfInBounds_toArray, List.set_cons_zero, List.set_cons_succ])
    refine wpAnyH_ready (rs := [5]) (by kernel_rfl) (by simp) ?_
    refine AllReadyH.cons rfl (fun K hK => ?_) AllReadyH.nil
    refine oper_app_u8s _ _ rfl W1.heap.size _ la (u8s Ya) (by first | rfl | (simp; done)) _ lb kb Yb (by first | rfl | (simp; done)) HPa.out (row_own HPb.out) HLb.out hcb (fun h => by cases h) (by omega) (by exact HBD3.out.size) ?_
    intro v4 w4 ho4 hb4
    have HO4 := Lib.hid (show w4.ownsRow W1.heap.size 5 1 v4 (la + lb) (u8s (encV 0 ++ encV t)) from by rw [← HYa.out, ← HYb.out, ← u8s_app]; exact ho4)
    have HB4 := Lib.hid (show Below W1.heap.size W1 w4 from HBD3.out.trans hb4)
    clear ho4 hb4
    refine hK.out _ _ HB4.out (fun hHeld => ?_)
    clear hK K
    (try simp only [Act.put, List.setIfInBounds_toArray, List.set_cons_zero, List.set_cons_succ])
    refine take_want (i := 6) (v := ?v6k2za) rfl (by kernel_rfl) (by kernel_rfl) (by kernel_rfl) (fun _ _ _ h => h) (by rfl) ?y6k2za (by assumption) ?r6k2za
    case y6k2za => (intro w hSw; go_simp; all_goals with_reducible rfl)
    (try simp only [Act.put, List.setIfInBounds_toArray, List.set_cons_zero, List.set_cons_succ])
    refine wpAnyH_done (by kernel_rfl) ?_ _
    obtain ⟨e0, e1, e2, e3, e4⟩ := HCEL.out w4 HB4.out
    obtain ⟨l4, hl4⟩ : ∃ l4, l4 = la + lb := ⟨_, rfl⟩
    have hl4b : 1 ≤ l4 ∧ l4 ≤ 20 := by omega
    rw [← hl4] at HO4
    clear hl4 hlab hlbb hca hcb
    go_wp2_with fail
    go_loopw [7, 8] (fun v i wr => ∃ (k l : Nat) (acc : List Int), k ≤ p ∧ i = .int .i64 k ∧ 1 ≤ l ∧ l ≤ 20 + 34 * k ∧ Hid (wr.ownsRow W1.heap.size 5 1 v l (u8s acc)) ∧ Hid (Below W1.heap.size W1 wr) ∧ Hid (acc = encV 0 ++ encV t ++ ((D.take k).map encT).flatten)) (fun _ i _ => p - (intOf i).toNat)
    case atStart => exact ⟨0, l4, encV 0 ++ encV t, Nat.zero_le _, rfl, hl4b.1, by omega, HO4, HB4, Lib.hid (by simp)⟩
    case round =>
      obtain ⟨k, l, acc, hk, rfl, hl1, hl2, HO, HBW, HA⟩ := hrel
      obtain ⟨e0, e1, e2, e3, e4⟩ := HCEL.out wr HBW.out
      by_cases hlt : k < p
      · have hkz : k < D.length := by have := HPD.out; omega
        have hki : (k : Int) < (p : Int) := by omega
        have hk0 : (0 : Int) ≤ (k : Int) := by omega
        obtain ⟨b, off, hAe, c0⟩ := text_cell (HRD.out.keep (Nat.le_refl _) HBW.out) hkz
        obtain ⟨s, hs⟩ : ∃ s, s = D[k] := ⟨_, rfl⟩
        rw [← hs] at c0
        have hsz : s.size ≤ 24 := by rw [hs]; exact HSD.out _ (List.getElem_mem _)
        have HTK := Lib.hid (show D.take (k + 1) = D.take k ++ [s] by rw [hs]; exact take_snoc D k hkz)
        subst hAe
        clear hs
        go_wp2_with fail
        refine (reftext_any s _ (by omega)).mono ?_
        rintro e w5 ⟨g5, k5, rfl, hc5, ho5, hb5⟩
        obtain ⟨Y5, hY5⟩ : ∃ Y5, Y5 = encT s := ⟨_, rfl⟩
        have hY5' : encV s.size ++ sB s = Y5 := by rw [hY5]; rfl
        rw [hY5'] at hc5 ho5 ⊢
        obtain ⟨l5, hl5⟩ : ∃ l5, l5 = Y5.length := ⟨_, rfl⟩
        rw [← hl5] at hc5 ho5 ⊢
        have h5b : 1 ≤ l5 ∧ l5 ≤ 34 := by
          have h1 := enc_bd (s.size : Nat)
          have h2 := sB_length s
          rw [hl5, ← hY5']; simp only [List.length_append]; omega
        have HO5 := Lib.hid (own_below HO.out hb5)
        have HR5 := Lib.hid (row_own ho5)
        have HL5 := Lib.hid hl5
        have HB5 := Lib.hid (bthen HBW.out hb5)
        have HA5 := Lib.hid (show acc ++ Y5 = encV 0 ++ encV t ++ ((D.take (k + 1)).map encT).flatten by
          rw [HTK.out, List.map_append, List.flatten_append, HA.out, hY5]
          simp)
        clear ho5 hb5 hl5 hY5 hY5' e0 e1 e2 e3 e4
        go_wp2_with (at_builtin; refine wpList_append_u8s rfl _ _ rfl W1.heap.size _ l _ (by first | rfl | (simp; done)) _ l5 k5 Y5 (by first | rfl | (simp; done)) HO5.out HR5.out HL5.out hc5 (fun h => by cases h) (by omega) (by exact HB5.out.size) ?_)
        intro v6 w6 ho6 hg6 _
        have HO6 := Lib.hid (show w6.ownsRow W1.heap.size 5 1 v6 (l + l5) (u8s (acc ++ Y5)) from by rw [← u8s_app]; exact ho6)
        have HB6 := Lib.hid (show Below W1.heap.size W1 w6 from HB5.out.grown hg6 HB5.out.size (fun g hg => (HO5.out.lt g hg).1))
        clear ho6 hg6
        go_wp2_with fail
        go_roundw
        case rel => exact ⟨k + 1, l + l5, acc ++ Y5, by omega, by go_num, by omega, by omega, HO6, HB6, HA5⟩
        case measure => simp [intOf]; omega
      · have hge : ¬ (k : Int) < (p : Int) := by omega
        have HA1 := Lib.hid (show acc = encV 0 ++ encV t ++ (D.map encT).flatten by
          rw [HA.out, List.take_of_length_le (by have := HPD.out; omega)])
        obtain ⟨wo, rfl⟩ : ∃ wo : World, wo = wr := ⟨_, rfl⟩
        have hlb : l ≤ 34020 := by omega
        clear hlt HA hk hl2
        go_wp2_with fail
        go_loopw [7, 9] (fun v i wr => ∃ (k l : Nat) (acc : List Int), k ≤ x ∧ i = .int .i64 k ∧ 1 ≤ l ∧ l ≤ 34020 + 10 * k ∧ Hid (wr.ownsRow W1.heap.size 5 1 v l (u8s acc)) ∧ Hid (Below W1.heap.size W1 wr) ∧ Hid (acc = encV 0 ++ encV t ++ (D.map encT).flatten ++ ((X.take k).map encV).flatten)) (fun _ i _ => x - (intOf i).toNat)
        case atStart => exact ⟨0, l, acc, Nat.zero_le _, rfl, hl1, by omega, HO, HBW, Lib.hid (by rw [HA1.out]; simp)⟩
        case round =>
          obtain ⟨j, l6, acc6, hj, rfl, hl6, hl7, HO6, HBW6, HA6⟩ := hrel
          obtain ⟨e0, e1, e2, e3, e4⟩ := HCEL.out wr HBW6.out
          by_cases hlt : j < x
          · have hjz : j < X.length := by have := HXD.out; omega
            have hji : (j : Int) < (x : Int) := by omega
            have hj0 : (0 : Int) ≤ (j : Int) := by omega
            obtain ⟨b, off, hAe, c0⟩ := (HRX.out.keep (Nat.le_refl _) HBW6.out).cell hjz
            obtain ⟨n5, hn5⟩ : ∃ n5, n5 = X[j] := ⟨_, rfl⟩
            rw [← hn5] at c0
            have hnb := HXB.out n5 (by rw [hn5]; exact List.getElem_mem _)
            have HTK := Lib.hid (show X.take (j + 1) = X.take j ++ [n5] by rw [hn5]; exact take_snoc X j hjz)
            subst hAe
            clear hn5
            go_wp2_with fail
            refine (refint_any n5 _ hnb.1 hnb.2).mono ?_
            rintro e w5 ⟨g5, k5, rfl, hc5, ho5, hb5⟩
            obtain ⟨Y5, hY5⟩ : ∃ Y5, Y5 = encV n5 := ⟨_, rfl⟩
            rw [← hY5] at hc5 ho5 ⊢
            obtain ⟨l5, hl5⟩ : ∃ l5, l5 = Y5.length := ⟨_, rfl⟩
            rw [← hl5] at hc5 ho5 ⊢
            have h5b : 1 ≤ l5 ∧ l5 ≤ 10 := by rw [hl5, hY5]; exact enc_bd n5
            have HO5 := Lib.hid (own_below HO6.out hb5)
            have HR5 := Lib.hid (row_own ho5)
            have HL5 := Lib.hid hl5
            have HB5 := Lib.hid (bthen HBW6.out hb5)
            have HA5 := Lib.hid (show acc6 ++ Y5 = encV 0 ++ encV t ++ (D.map encT).flatten ++ ((X.take (j + 1)).map encV).flatten by
              rw [HTK.out, List.map_append, List.flatten_append, HA6.out, hY5]
              simp)
            clear ho5 hb5 hl5 hY5 e0 e1 e2 e3 e4
            go_wp2_with (at_builtin; refine wpList_append_u8s rfl _ _ rfl W1.heap.size _ l6 _ (by first | rfl | (simp; done)) _ l5 k5 Y5 (by first | rfl | (simp; done)) HO5.out HR5.out HL5.out hc5 (fun h => by cases h) (by omega) (by exact HB5.out.size) ?_)
            intro v7 w7 ho7 hg7 _
            have HO7 := Lib.hid (show w7.ownsRow W1.heap.size 5 1 v7 (l6 + l5) (u8s (acc6 ++ Y5)) from by rw [← u8s_app]; exact ho7)
            have HB7 := Lib.hid (show Below W1.heap.size W1 w7 from HB5.out.grown hg7 HB5.out.size (fun g hg => (HO5.out.lt g hg).1))
            clear ho7 hg7
            go_wp2_with fail
            go_roundw
            case rel => exact ⟨j + 1, l6 + l5, acc6 ++ Y5, by omega, by go_num, by omega, by omega, HO7, HB7, HA5⟩
            case measure => simp [intOf]; omega
          · have hge : ¬ (j : Int) < (x : Int) := by omega
            have HA7 := Lib.hid (show acc6 = encJ ⟨false, now, ⟨E, p, q, F, x, y, t, D, X⟩⟩ by
              rw [HEJ.out, HA6.out, List.take_of_length_le (by have := HXD.out; omega)])
            clear hlt
            go_wp2_with fail
            refine bodyPost_ret (v := .tuple #[u7, .int .i64 0]) (by simp [results, Tryd.results61, go_sem]) rfl ?_
            exact EncPost.of HRJ.out HA7.out HO6.out (by omega) HB1.out HBW6.out
end Go.Proofs.YthogafecplhckaaDoor
namespace Go.Proofs.YthogafecplhckaaDoor
open Go.RowKit Go.Lib
set_option linter.unusedSimpArgs false
set_option linter.unusedVariables false
theorem nx_enc {lo hi v : Int} {bs rest : List Int} {I J : Nat} {bad b : Bool} {x : Int} (h : Nx lo hi bs I bad x J b) (h1 : -9223372036854775808 ≤ v) (h2 : v ≤ 9223372036854775807) (l1 : lo ≤ v) (l2 : v ≤ hi) (he : bs.drop I = encV v ++ rest) : x = v ∧ b = bad ∧ bs.drop J = rest := by
  have p : numP (bs.drop I) = (v, encG v) := by rw [he]; exact numP_enc h1 h2 _
  have q := encG_pos v
  rcases h with ⟨e1, e2, e3, e4, e5, e6⟩ | ⟨e1, e2, e3, e4⟩
  · rw [p] at e1
    simp only [Prod.mk.injEq] at e1
    refine ⟨e1.1.symm, e6, ?_⟩
    rw [show J = I + encG v by omega, ← List.drop_drop, he, drop_enc]
  · rw [p] at e1
    simp only [] at e1
    omega
theorem tx_enc {bs rest : List Int} {I J : Nat} {bad b : Bool} {x s : ByteArray} (h : Tx 24 bs I bad x J b) (hs : s.size ≤ 24) (he : bs.drop I = encT s ++ rest) : x = s ∧ b = bad ∧ bs.drop J = rest := by
  have h0 : encT s ++ rest = encV (s.size : Int) ++ (sB s ++ rest) := by unfold encT; simp
  have p : numP (bs.drop I) = ((s.size : Int), encG (s.size : Int)) := by rw [he, h0]; exact numP_enc (by omega) (by omega) _
  have q := encG_pos (s.size : Int)
  have e9 : (bs.drop I).drop (encG (s.size : Int)) = sB s ++ rest := by rw [he, h0, drop_enc]
  have hlen : (bs.drop I).length = encG (s.size : Int) + s.size + rest.length := by rw [he, h0, List.length_append, List.length_append, encG_len, sB_length]; omega
  rw [List.length_drop] at hlen
  rcases h with ⟨l, t, e1, e2, e3, e4, e5, e6, e7⟩ | ⟨e1, e2, e3, e4⟩
  · rw [p] at e1
    simp only [Prod.mk.injEq] at e1
    have et : t = s.size := by omega
    have el : l = encG (s.size : Int) := e1.2.symm
    subst et el
    refine ⟨?_, e7, ?_⟩
    · rw [e5, ← List.drop_drop, e9, show (sB s ++ rest).take s.size = sB s by rw [← sB_length, List.take_left], strOf_sB]
    · rw [e6, ← List.drop_drop, ← List.drop_drop, e9, show (sB s ++ rest).drop s.size = rest by rw [← sB_length, List.drop_left]]
  · rw [p] at e1
    simp only [] at e1
    omega
/-- If the bytes are an event's, then so much of it was read. -/
def FitD (L M : List ByteArray) (bs : List Int) (t : Int) (k : Nat) (D : List ByteArray) (l : Nat) (X : List Int) (I : Nat) (bad : Bool) : Prop :=
  ∀ z, rightJ L M z → encJ z = bs → z.tick = false ∧ bad = false ∧ t = z.ev.t ∧ D = z.ev.D.take k ∧ X = z.ev.X.take l ∧ bs.drop I = ((z.ev.D.drop k).map encT).flatten ++ ((z.ev.X.drop l).map encV).flatten
theorem FitD.moreD {L M : List ByteArray} {bs : List Int} {t : Int} {k l I J : Nat} {D : List ByteArray} {X : List Int} {bad b : Bool} {x : ByteArray} (h : FitD L M bs t k D l X I bad) (hk : k < L.length) (hT : Tx 24 bs I bad x J b) : FitD L M bs t (k + 1) (D ++ [x]) l X J b := by
  intro z hz he
  obtain ⟨h1, h2, h3, h4, h5, h6⟩ := h z hz he
  have hr := (right_event hz h1).2
  have hkd : k < z.ev.D.length := by rw [hr.dl]; exact hk
  rw [List.drop_eq_getElem_cons hkd, List.map_cons, List.flatten_cons, List.append_assoc] at h6
  obtain ⟨g1, g2, g3⟩ := tx_enc hT ((hr.dv _ (List.getElem_mem hkd)).1) h6
  exact ⟨h1, by rw [g2, h2], h3, by rw [g1, h4, ← take_snoc _ k hkd], h5, g3⟩
theorem FitD.moreX {L M : List ByteArray} {bs : List Int} {t : Int} {k l I J : Nat} {D : List ByteArray} {X : List Int} {bad b : Bool} {x : Int} (h : FitD L M bs t k D l X I bad) (hk : k = L.length) (hl : l < M.length) (hT : Nx (-4611686018427387904) 4611686018427387904 bs I bad x J b) : FitD L M bs t k D (l + 1) (X ++ [x]) J b := by
  intro z hz he
  obtain ⟨h1, h2, h3, h4, h5, h6⟩ := h z hz he
  have hr := (right_event hz h1).2
  have hlx : l < z.ev.X.length := by rw [hr.xl]; exact hl
  have hd : z.ev.D.drop k = [] := List.drop_of_length_le (by rw [hk, hr.dl]; exact Nat.le_refl _)
  rw [hd, List.drop_eq_getElem_cons hlx, List.map_cons, List.flatten_cons] at h6
  simp only [List.map_nil, List.flatten_nil, List.nil_append] at h6
  have hg := hr.xv _ (List.getElem_mem hlx)
  unfold greatZ at hg
  obtain ⟨g1, g2, g3⟩ := nx_enc hT (by omega) (by omega) (by omega) (by omega) h6
  exact ⟨h1, by rw [g2, h2], h3, h4, by rw [g1, h5, ← take_snoc _ l hlx], by rw [hd, g3]; rfl⟩
/-- If the bytes are an entry's, then all of it was read. -/
def FitZ (L M : List ByteArray) (bs : List Int) (tick : Bool) (now t : Int) (D : List ByteArray) (X : List Int) (I : Nat) (bad : Bool) : Prop :=
  ∀ z, rightJ L M z → encJ z = bs → bad = false ∧ bs.drop I = [] ∧ tick = z.tick ∧ now = z.now ∧ t = z.ev.t ∧ D = z.ev.D ∧ X = z.ev.X
theorem FitD.all {L M : List ByteArray} {bs : List Int} {t : Int} {k l I : Nat} {D : List ByteArray} {X : List Int} {bad : Bool} (h : FitD L M bs t k D l X I bad) (hk : k = L.length) (hl : l = M.length) : FitZ L M bs false 0 t D X I bad := by
  intro z hz he
  obtain ⟨h1, h2, h3, h4, h5, h6⟩ := h z hz he
  obtain ⟨h7, hr⟩ := right_event hz h1
  have hd : z.ev.D.drop k = [] := List.drop_of_length_le (by rw [hk, hr.dl]; exact Nat.le_refl _)
  have hx : z.ev.X.drop l = [] := List.drop_of_length_le (by rw [hl, hr.xl]; exact Nat.le_refl _)
  refine ⟨h2, by rw [h6, hd, hx]; rfl, h1.symm, h7.symm, h3, ?_, ?_⟩
  · rw [h4, List.take_of_length_le (by rw [hk, hr.dl]; exact Nat.le_refl _)]
  · rw [h5, List.take_of_length_le (by rw [hl, hr.xl]; exact Nat.le_refl _)]
theorem fit_start {L M : List ByteArray} {bs : List Int} {kd t : Int} {I J : Nat} {b c : Bool} (h1 : Nx 0 1 bs 0 false kd I b) (h2 : Nx 0 1099511627776 bs I b t J c) :
    (kd = 1 → FitZ L M bs true t 0 [] [] J c) ∧ (kd ≠ 1 → FitD L M bs t 0 [] 0 [] J c) := by
  have key : ∀ z, rightJ L M z → encJ z = bs → (z.tick = true → kd = 1 ∧ c = false ∧ t = z.now ∧ bs.drop J = []) ∧ (z.tick = false → kd = 0 ∧ c = false ∧ t = z.ev.t ∧ bs.drop J = (z.ev.D.map encT).flatten ++ (z.ev.X.map encV).flatten) := by
    intro z hz he
    constructor
    · intro ht
      obtain ⟨r1, r2, r3, r4, r5⟩ := right_tick hz ht
      have e0 : bs.drop 0 = encV 1 ++ (encV z.now ++ []) := by rw [List.drop_zero, ← he, encJ, if_pos ht]; simp
      obtain ⟨g1, g2, g3⟩ := nx_enc h1 (by omega) (by omega) (by omega) (by omega) e0
      obtain ⟨k1, k2, k3⟩ := nx_enc h2 (by omega) (by omega) r4 r5 g3
      exact ⟨g1, by rw [k2, g2], k1, k3⟩
    · intro ht
      obtain ⟨r1, r2⟩ := right_event hz ht
      have r3 := r2.t0
      have r4 := r2.t1
      have e0 : bs.drop 0 = encV 0 ++ (encV z.ev.t ++ ((z.ev.D.map encT).flatten ++ (z.ev.X.map encV).flatten)) := by rw [List.drop_zero, ← he, encJ, if_neg (by rw [ht]; simp)]; simp
      obtain ⟨g1, g2, g3⟩ := nx_enc h1 (by omega) (by omega) (by omega) (by omega) e0
      obtain ⟨k1, k2, k3⟩ := nx_enc h2 (by omega) (by omega) r3 r4 g3
      exact ⟨g1, by rw [k2, g2], k1, k3⟩
  constructor
  · intro hk z hz he
    cases ht : z.tick with
    | true =>
      obtain ⟨r1, r2, r3, r4, r5⟩ := right_tick hz ht
      obtain ⟨g1, g2, g3, g4⟩ := (key z hz he).1 ht
      exact ⟨g2, g4, rfl, g3, r1.symm, r2.symm, r3.symm⟩
    | false =>
      obtain ⟨g1, g2, g3, g4⟩ := (key z hz he).2 ht
      omega
  · intro hk z hz he
    cases ht : z.tick with
    | true =>
      obtain ⟨g1, _⟩ := (key z hz he).1 ht
      exact absurd g1 hk
    | false =>
      obtain ⟨g1, g2, g3, g4⟩ := (key z hz he).2 ht
      exact ⟨rfl, g2, g3, by simp, by simp, by simpa using g4⟩
/-- The reader's box, behind what may turn elsewhere. -/
theorem Bx.frs {w w' : World} {mb : Nat} {V : Value} {I : Nat} {bad : Bool} {S : Nat → Prop} (h : Bx w mb V I bad) (hf : Fr S w w') (hlt : mb < w.heap.size) (hs : ¬ S mb) : Bx w' mb V I bad := by
  have hb := hf.block mb hlt hs
  have hc : ∀ o, w'.cell? ⟨mb, o, none⟩ = w.cell? ⟨mb, o, none⟩ := fun o => World.cell?_of_block (a := ⟨mb, o, none⟩) hb
  have hz : ∀ o, w'.frozen? ⟨mb, o, none⟩ = w.frozen? ⟨mb, o, none⟩ := fun o => by unfold World.frozen?; simp only []; rw [hb]
  obtain ⟨h0, h1, h2, h3⟩ := h
  exact ⟨by rw [hc]; exact h0, by rw [hc]; exact h1, by rw [hc]; exact h2, fun o => ⟨by rw [hz]; exact (h3 o).1, fun ho => by rw [hc]; exact (h3 o).2 ho⟩⟩
theorem RowX.frs {w w' : World} {mb H : Nat} {A : Option Addr} {bs : List Int} (h : Row w A (bs.map (Value.int .u8))) (hH : w.heap.size ≤ H) (hm : H ≤ mb) (hb : Below H w w') : RowX w' mb A bs := by
  rcases h with h0 | ⟨b, off, rfl, hc⟩
  · exact .inl (List.map_eq_nil_iff.1 h0)
  · rcases bs with _ | ⟨x, bs⟩
    · exact .inl rfl
    · have hlt : b < w.heap.size := lt_of_cell (hc 0 (.int .u8 x) rfl)
      refine .inr ⟨b, off, rfl, by omega, fun j u hu => ?_⟩
      exact (World.cell?_of_block (a := ⟨b, off + j, none⟩) (hb.block b (by show b < _; omega))).trans (hc j u hu)
/-- An event as the document reads it. -/
structure RSt (w1 wr : World) (mb eb : Nat) (Rv : Value) (I : Nat) (bad : Bool) (t : Int) (E : Option Addr) (k q : Nat) (D : List ByteArray) (F : Option Addr) (l y : Nat) (X : List Int) : Prop where
  bx : Bx wr mb Rv I bad
  blk : Blk wr eb 46 #[.bool false, .int .i64 0, .int .i64 t, .slice E k q, .slice F l y]
  od : wr.ownsRow w1.heap.size 9 1 (.slice E k q) k (texts D)
  ox : wr.ownsRow w1.heap.size 3 1 (.slice F l y) l (intsV X)
  fr : Fr (fun i => i = mb ∨ i = eb) w1 wr
  kd : k = D.length
  lx : l = X.length
  mlt : mb < eb
  elt : eb < w1.heap.size
theorem RSt.ownD {w1 wr w2 : World} {mb eb k l q y I : Nat} {Rv : Value} {bad : Bool} {t : Int} {E F : Option Addr} {D : List ByteArray} {X : List Int} {u : Value}
    (h : RSt w1 wr mb eb Rv I bad t E k q D F l y X) (hf : Fr (fun i => i = mb) wr w2) :
    (w2.alloc (.cells #[u] 9)).ownsRow w1.heap.size 9 1 (.slice E k q) k (texts D) ∧ w1.heap.size ≤ (w2.alloc (.cells #[u] 9)).heap.size := by
  have hab : Below w2.heap.size w2 (w2.alloc (.cells #[u] 9)) := bpush (Below.refl _ _) _
  exact ⟨own_below (own_frJ h.od hf (fun b hb e => by have := own_far h.od hb; have := h.mlt; have := h.elt; omega)) hab, Nat.le_trans (Nat.le_trans h.fr.size hf.size) hab.size⟩
theorem RSt.cellD {w1 wr w2 w4 : World} {mb eb k l q y I : Nat} {Rv : Value} {bad : Bool} {t : Int} {E F : Option Addr} {D : List ByteArray} {X : List Int} {u : Value}
    (h : RSt w1 wr mb eb Rv I bad t E k q D F l y X) (hf : Fr (fun i => i = mb) wr w2) (hg : (w2.alloc (.cells #[u] 9)).grownBy w4 (Value.ownBlock (.slice E k q))) :
    w4.cell? ⟨eb, 3, none⟩ = some (.slice E k q) ∧ w4.frozen? ⟨eb, 3, none⟩ = false := by
  have hab : Below w2.heap.size w2 (w2.alloc (.cells #[u] 9)) := bpush (Below.refl _ _) _
  have hb2 : Blk w2 eb 46 #[.bool false, .int .i64 0, .int .i64 t, .slice E k q, .slice F l y] := (hf.block _ h.blk.lt (fun e => by have := h.mlt; omega)).trans h.blk
  have hg4 := grown_own (h.ownD (u := u) hf).1 hg (h.ownD (u := u) hf).2
  have hb4 : Blk w4 eb 46 #[.bool false, .int .i64 0, .int .i64 t, .slice E k q, .slice F l y] := ((hb2.below hab hb2.lt).below hg4 h.elt)
  exact ⟨by rw [hb4.cell 3]; rfl, hb4.frozen 3⟩
theorem RSt.moreD {w1 wr w2 w4 : World} {mb eb k l q y I J : Nat} {Rv : Value} {bad b : Bool} {t : Int} {E F : Option Addr} {D : List ByteArray} {X : List Int} {v4 : Value} {x : ByteArray}
    (h : RSt w1 wr mb eb Rv I bad t E k q D F l y X) (h2 : Bx w2 mb Rv J b) (hf : Fr (fun i => i = mb) wr w2)
    (ho : w4.ownsRow w1.heap.size 9 1 v4 (k + 1) (texts D ++ [.string x])) (hg : (w2.alloc (.cells #[.string x] 9)).grownBy w4 (Value.ownBlock (.slice E k q))) :
    ∃ A' c', v4 = .slice A' (k + 1) c' ∧ RSt w1 (w4.setCell ⟨eb, 3, none⟩ v4) mb eb Rv J b t A' (k + 1) c' (D ++ [x]) F l y X := by
  obtain ⟨A', c', hv⟩ := own_is ho
  refine ⟨A', c', hv, ?_⟩
  have hab : Below w2.heap.size w2 (w2.alloc (.cells #[.string x] 9)) := bpush (Below.refl _ _) _
  have od2 : w2.ownsRow w1.heap.size 9 1 (.slice E k q) k (texts D) := own_frJ h.od hf (fun b hb e => by have := own_far h.od hb; have := h.mlt; have := h.elt; omega)
  have ox2 : w2.ownsRow w1.heap.size 3 1 (.slice F l y) l (intsV X) := own_frJ h.ox hf (fun b hb e => by have := own_far h.ox hb; have := h.mlt; have := h.elt; omega)
  have od3 := own_below od2 hab
  have ox3 := own_below ox2 hab
  have hb2 : Blk w2 eb 46 #[.bool false, .int .i64 0, .int .i64 t, .slice E k q, .slice F l y] := (hf.block _ h.blk.lt (fun e => by have := h.mlt; omega)).trans h.blk
  have hBz : w1.heap.size ≤ (w2.alloc (.cells #[.string x] 9)).heap.size := Nat.le_trans (Nat.le_trans h.fr.size hf.size) hab.size
  have hg4 : Below w1.heap.size (w2.alloc (.cells #[.string x] 9)) w4 := grown_own od3 hg hBz
  have hb4 : Blk w4 eb 46 #[.bool false, .int .i64 0, .int .i64 t, .slice E k q, .slice F l y] := ((hb2.below hab hb2.lt).below hg4 h.elt)
  have hbe : Below eb w2 (w4.setCell ⟨eb, 3, none⟩ v4) := ((hab.mono (Nat.le_of_lt hb2.lt)).trans (hg4.mono (Nat.le_of_lt h.elt))).setCell (p := ⟨eb, 3, none⟩) (Nat.le_refl _) v4
  have oo4 : w4.ownsRow w1.heap.size 3 1 (.slice F l y) l (intsV X) := ox3.kept hg (by
    rcases own_not_own ox3 od3 (by decide) with h9 | h9
    · exact .inl h9
    · exact .inr h9)
  have hln : (D ++ [x]).length = k + 1 := by rw [List.length_append, h.kd]; rfl
  have hml := h.mlt
  have hel := h.elt
  have hmz : mb < w2.heap.size := by have h1 := h.fr.size; have h2 := hf.size; omega
  have hfr : Fr (fun i => i = mb ∨ i = eb) w1 (w4.setCell ⟨eb, 3, none⟩ v4) := by
    have h1 : Fr (fun i => i = mb ∨ i = eb) w1 w2 := h.fr.trans (hf.mono (fun i _ hi => .inl hi))
    have h2 : Below w1.heap.size w2 w4 := (hab.mono (by have h1 := h.fr.size; have h2 := hf.size; omega)).trans hg4
    exact (h1.thenBelow h2 (Nat.le_refl _) (by have h3 := h1.size; have h4 := h2.size; omega)).set_ (.inl (.inr rfl)) _
  refine ⟨?_, ?_, ?_, ?_, hfr, ?_, ?_, hml, hel⟩
  · have h2' : Fr (fun i => i = eb ∨ w1.heap.size ≤ i) w2 (w4.setCell ⟨eb, 3, none⟩ v4) :=
      ⟨hbe.os, hbe.tape, hbe.output, hbe.size, fun i hi hn => by
        have hne : i ≠ eb := fun e => hn (.inl e)
        have hlt : i < w1.heap.size := Nat.lt_of_not_ge (fun h9 => hn (.inr h9))
        have e1 : (w4.setCell ⟨eb, 3, none⟩ v4).heap[i]? = w4.heap[i]? := Below.heap_setCell w4 ⟨eb, 3, none⟩ v4 i (fun e => hne (by simpa using e))
        rw [e1, hg4.block i hlt, hab.block i hi]⟩
    exact h2.frs h2' hmz (by show ¬ (mb = eb ∨ w1.heap.size ≤ mb); omega)
  · have := hb4.set_ 3 v4; rw [hv] at this ⊢; simpa using this
  · have := own_set' (o := 3) (u := v4) ho (own_apart ho hel); rw [hv] at this ⊢; simpa [texts] using this
  · exact own_set' oo4 (own_apart oo4 hel)
  · exact hln.symm
  · exact h.lx
theorem RSt.ownX {w1 wr w2 : World} {mb eb k l q y I : Nat} {Rv : Value} {bad : Bool} {t : Int} {E F : Option Addr} {D : List ByteArray} {X : List Int} {u : Value}
    (h : RSt w1 wr mb eb Rv I bad t E k q D F l y X) (hf : Fr (fun i => i = mb) wr w2) :
    (w2.alloc (.cells #[u] 3)).ownsRow w1.heap.size 3 1 (.slice F l y) l (intsV X) ∧ w1.heap.size ≤ (w2.alloc (.cells #[u] 3)).heap.size := by
  have hab : Below w2.heap.size w2 (w2.alloc (.cells #[u] 3)) := bpush (Below.refl _ _) _
  exact ⟨own_below (own_frJ h.ox hf (fun b hb e => by have := own_far h.ox hb; have := h.mlt; have := h.elt; omega)) hab, Nat.le_trans (Nat.le_trans h.fr.size hf.size) hab.size⟩
theorem RSt.cellX {w1 wr w2 w4 : World} {mb eb k l q y I : Nat} {Rv : Value} {bad : Bool} {t : Int} {E F : Option Addr} {D : List ByteArray} {X : List Int} {u : Value}
    (h : RSt w1 wr mb eb Rv I bad t E k q D F l y X) (hf : Fr (fun i => i = mb) wr w2) (hg : (w2.alloc (.cells #[u] 3)).grownBy w4 (Value.ownBlock (.slice F l y))) :
    w4.cell? ⟨eb, 4, none⟩ = some (.slice F l y) ∧ w4.frozen? ⟨eb, 4, none⟩ = false := by
  have hab : Below w2.heap.size w2 (w2.alloc (.cells #[u] 3)) := bpush (Below.refl _ _) _
  have hb2 : Blk w2 eb 46 #[.bool false, .int .i64 0, .int .i64 t, .slice E k q, .slice F l y] := (hf.block _ h.blk.lt (fun e => by have := h.mlt; omega)).trans h.blk
  have hg4 := grown_own (h.ownX (u := u) hf).1 hg (h.ownX (u := u) hf).2
  have hb4 : Blk w4 eb 46 #[.bool false, .int .i64 0, .int .i64 t, .slice E k q, .slice F l y] := ((hb2.below hab hb2.lt).below hg4 h.elt)
  exact ⟨by rw [hb4.cell 4]; rfl, hb4.frozen 4⟩
theorem RSt.moreX {w1 wr w2 w4 : World} {mb eb k l q y I J : Nat} {Rv : Value} {bad b : Bool} {t : Int} {E F : Option Addr} {D : List ByteArray} {X : List Int} {v4 : Value} {x : Int}
    (h : RSt w1 wr mb eb Rv I bad t E k q D F l y X) (h2 : Bx w2 mb Rv J b) (hf : Fr (fun i => i = mb) wr w2)
    (ho : w4.ownsRow w1.heap.size 3 1 v4 (l + 1) (intsV X ++ [.int .i64 x])) (hg : (w2.alloc (.cells #[.int .i64 x] 3)).grownBy w4 (Value.ownBlock (.slice F l y))) :
    ∃ A' c', v4 = .slice A' (l + 1) c' ∧ RSt w1 (w4.setCell ⟨eb, 4, none⟩ v4) mb eb Rv J b t E k q D A' (l + 1) c' (X ++ [x]) := by
  obtain ⟨A', c', hv⟩ := own_is ho
  refine ⟨A', c', hv, ?_⟩
  have hab : Below w2.heap.size w2 (w2.alloc (.cells #[.int .i64 x] 3)) := bpush (Below.refl _ _) _
  have od2 : w2.ownsRow w1.heap.size 9 1 (.slice E k q) k (texts D) := own_frJ h.od hf (fun b hb e => by have := own_far h.od hb; have := h.mlt; have := h.elt; omega)
  have ox2 : w2.ownsRow w1.heap.size 3 1 (.slice F l y) l (intsV X) := own_frJ h.ox hf (fun b hb e => by have := own_far h.ox hb; have := h.mlt; have := h.elt; omega)
  have od3 := own_below od2 hab
  have ox3 := own_below ox2 hab
  have hb2 : Blk w2 eb 46 #[.bool false, .int .i64 0, .int .i64 t, .slice E k q, .slice F l y] := (hf.block _ h.blk.lt (fun e => by have := h.mlt; omega)).trans h.blk
  have hBz : w1.heap.size ≤ (w2.alloc (.cells #[.int .i64 x] 3)).heap.size := Nat.le_trans (Nat.le_trans h.fr.size hf.size) hab.size
  have hg4 : Below w1.heap.size (w2.alloc (.cells #[.int .i64 x] 3)) w4 := grown_own ox3 hg hBz
  have hb4 : Blk w4 eb 46 #[.bool false, .int .i64 0, .int .i64 t, .slice E k q, .slice F l y] := ((hb2.below hab hb2.lt).below hg4 h.elt)
  have hbe : Below eb w2 (w4.setCell ⟨eb, 4, none⟩ v4) := ((hab.mono (Nat.le_of_lt hb2.lt)).trans (hg4.mono (Nat.le_of_lt h.elt))).setCell (p := ⟨eb, 4, none⟩) (Nat.le_refl _) v4
  have oo4 : w4.ownsRow w1.heap.size 9 1 (.slice E k q) k (texts D) := od3.kept hg (by
    rcases own_not_own od3 ox3 (by decide) with h9 | h9
    · exact .inl h9
    · exact .inr h9)
  have hln : (X ++ [x]).length = l + 1 := by rw [List.length_append, h.lx]; rfl
  have hml := h.mlt
  have hel := h.elt
  have hmz : mb < w2.heap.size := by have h1 := h.fr.size; have h2 := hf.size; omega
  have hfr : Fr (fun i => i = mb ∨ i = eb) w1 (w4.setCell ⟨eb, 4, none⟩ v4) := by
    have h1 : Fr (fun i => i = mb ∨ i = eb) w1 w2 := h.fr.trans (hf.mono (fun i _ hi => .inl hi))
    have h2 : Below w1.heap.size w2 w4 := (hab.mono (by have h1 := h.fr.size; have h2 := hf.size; omega)).trans hg4
    exact (h1.thenBelow h2 (Nat.le_refl _) (by have h3 := h1.size; have h4 := h2.size; omega)).set_ (.inl (.inr rfl)) _
  refine ⟨?_, ?_, ?_, ?_, hfr, ?_, ?_, hml, hel⟩
  · have h2' : Fr (fun i => i = eb ∨ w1.heap.size ≤ i) w2 (w4.setCell ⟨eb, 4, none⟩ v4) :=
      ⟨hbe.os, hbe.tape, hbe.output, hbe.size, fun i hi hn => by
        have hne : i ≠ eb := fun e => hn (.inl e)
        have hlt : i < w1.heap.size := Nat.lt_of_not_ge (fun h9 => hn (.inr h9))
        have e1 : (w4.setCell ⟨eb, 4, none⟩ v4).heap[i]? = w4.heap[i]? := Below.heap_setCell w4 ⟨eb, 4, none⟩ v4 i (fun e => hne (by simpa using e))
        rw [e1, hg4.block i hlt, hab.block i hi]⟩
    exact h2.frs h2' hmz (by show ¬ (mb = eb ∨ w1.heap.size ≤ mb); omega)
  · have := hb4.set_ 4 v4; rw [hv] at this ⊢; simpa using this
  · exact own_set' oo4 (own_apart oo4 hel)
  · have := own_set' (o := 4) (u := v4) ho (own_apart ho hel); rw [hv] at this ⊢; simpa [intsV] using this
  · exact h.kd
  · exact hln.symm
end Go.Proofs.YthogafecplhckaaDoor
namespace Go.Proofs.YthogafecplhckaaDoor
open Go.RowKit Go.Lib
set_option linter.unusedSimpArgs false
set_option linter.unusedVariables false
theorem Tx.le2 {bs : List Int} {I J : Nat} {bad b : Bool} {s : ByteArray} (h : Tx 24 bs I bad s J b) (hI : I ≤ bs.length) : J ≤ bs.length := by
  rcases h with ⟨l, t, _, _, _, h, _, h2, _⟩ | ⟨_, _, h, _⟩ <;> omega
theorem Tx.sz {bs : List Int} {I J : Nat} {bad b : Bool} {s : ByteArray} (h : Tx 24 bs I bad s J b) : s.size ≤ 24 := by
  rcases h with ⟨l, t, _, _, h1, _, h, _, _⟩ | ⟨_, h, _, _⟩
  · rw [h, strOf_size, List.length_take]; omega
  · rw [h]; decide
set_option maxRecDepth 100000 in
set_option maxHeartbeats 16000000 in
theorem refdecode_any (A B Ab : Option Addr) (n c m d nb cb : Nat) (L M : List ByteArray) (bs : List Int) (w : World) (hrow : Row w Ab (bs.map (Value.int .u8))) (hnb : nb = bs.length) (hnb2 : nb ≤ 1000000) (hby : bytes bs) (hnc : nb ≤ cb) (hnil : Ab = none → cb = 0) (hn : n = L.length) (hm : m = M.length) (hn2 : n ≤ 1000) (hm2 : m ≤ 1000) :
    Calls Tryd.prog 32 #[.agg #[.slice A n c, .slice B m d], .slice Ab nb cb] w (DecPost w L M bs) := by
  obtain ⟨w1, hw1⟩ : ∃ w1, w1 = (((w.alloc (.cells #[.slice A n c, .slice B m d] 24)).alloc (.cells #[.bool false, .int .i64 0, .int .i64 0, .slice none 0 0, .slice none 0 0] 46)).alloc (.cells #[.slice Ab nb cb, .int .i64 0, .bool false] 104)).alloc (.cells #[.bool false, .int .i64 0, .int .i64 0, .slice none 0 0, .slice none 0 0] 46) := ⟨_, rfl⟩
  obtain ⟨mb, hmb⟩ : ∃ mb, mb = w.heap.size + 2 := ⟨_, rfl⟩
  obtain ⟨eb, heb⟩ : ∃ eb, eb = w.heap.size + 3 := ⟨_, rfl⟩
  have hb1 : Below w.heap.size w w1 := by rw [hw1]; exact bpush (bpush (bpush (bpush (Below.refl _ _) _) _) _) _
  have hz1 : w1.heap.size = w.heap.size + 4 := by rw [hw1]; simp
  have hA1 : w1.cell? ⟨w.heap.size, 0, none⟩ = some (.slice A n c) := by rw [hw1]; exact cell_on (bpush (bpush (bpush (Below.refl _ _) _) _) _) (cell_made rfl rfl)
  have hB1 : w1.cell? ⟨w.heap.size, 1, none⟩ = some (.slice B m d) := by rw [hw1]; exact cell_on (bpush (bpush (bpush (Below.refl _ _) _) _) _) (cell_made rfl rfl)
  have hQ1 : Blk w1 (w.heap.size + 1) 46 #[.bool false, .int .i64 0, .int .i64 0, .slice none 0 0, .slice none 0 0] := by
    rw [hw1]
    have := ((Blk.new (w.alloc (.cells #[.slice A n c, .slice B m d] 24)) 46 #[.bool false, .int .i64 0, .int .i64 0, .slice none 0 0, .slice none 0 0]).alloc (.cells #[.slice Ab nb cb, .int .i64 0, .bool false] 104)).alloc (.cells #[.bool false, .int .i64 0, .int .i64 0, .slice none 0 0, .slice none 0 0] 46)
    simpa using this
  have hM1 : Blk w1 mb 104 #[.slice Ab nb cb, .int .i64 0, .bool false] := by
    rw [hw1, hmb]
    have := (Blk.new ((w.alloc (.cells #[.slice A n c, .slice B m d] 24)).alloc (.cells #[.bool false, .int .i64 0, .int .i64 0, .slice none 0 0, .slice none 0 0] 46)) 104 #[.slice Ab nb cb, .int .i64 0, .bool false]).alloc (.cells #[.bool false, .int .i64 0, .int .i64 0, .slice none 0 0, .slice none 0 0] 46)
    simpa using this
  have hE1 : Blk w1 eb 46 #[.bool false, .int .i64 0, .int .i64 0, .slice none 0 0, .slice none 0 0] := by
    rw [hw1, heb]
    have := Blk.new (((w.alloc (.cells #[.slice A n c, .slice B m d] 24)).alloc (.cells #[.bool false, .int .i64 0, .int .i64 0, .slice none 0 0, .slice none 0 0] 46)).alloc (.cells #[.slice Ab nb cb, .int .i64 0, .bool false] 104)) 46 #[.bool false, .int .i64 0, .int .i64 0, .slice none 0 0, .slice none 0 0]
    simpa using this
  have hBx1 : Bx w1 mb (.slice Ab nb cb) 0 false := by
    refine ⟨by rw [hM1.cell 0]; rfl, by rw [hM1.cell 1]; rfl, by rw [hM1.cell 2]; rfl, fun o => ⟨hM1.frozen o, fun ho => ?_⟩⟩
    rw [hM1.cell o, Array.getElem?_eq_none (by simpa using ho)]
  have hord : mb < eb ∧ eb < w1.heap.size ∧ w.heap.size + 2 ≤ mb ∧ w.heap.size + 2 ≤ eb := by omega
  have HRES := Lib.hid (fun W (hf : Fr (fun i => i = mb ∨ i = eb) w1 W) => show (W.cell? ⟨w.heap.size, 0, none⟩ = some (.slice A n c) ∧ W.cell? ⟨w.heap.size, 1, none⟩ = some (.slice B m d)) ∧ Blk W (w.heap.size + 1) 46 #[.bool false, .int .i64 0, .int .i64 0, .slice none 0 0, .slice none 0 0] from
    ⟨⟨(World.cell?_of_block (a := ⟨w.heap.size, 0, none⟩) (hf.block _ (by show w.heap.size < _; omega) (by show ¬ (w.heap.size = mb ∨ w.heap.size = eb); omega))).trans hA1, (World.cell?_of_block (a := ⟨w.heap.size, 1, none⟩) (hf.block _ (by show w.heap.size < _; omega) (by show ¬ (w.heap.size = mb ∨ w.heap.size = eb); omega))).trans hB1⟩, (hf.block _ (by omega) (by omega)).trans hQ1⟩)
  have HBWW := Lib.hid (fun W (hf : Fr (fun i => i = mb ∨ i = eb) w1 W) => show Below w.heap.size w W from hb1.trans (hf.below (by omega) (fun i hi => by omega)))
  have HRX := Lib.hid (fun W (hf : Fr (fun i => i = mb ∨ i = eb) w1 W) => show RowX W mb Ab bs from RowX.frs hrow (Nat.le_refl _) (by omega) (HBWW.out W hf))
  have HST1 := Lib.hid (And.intro hBx1 hE1)
  have HORD := Lib.hid hord
  have HZ1 := Lib.hid hz1
  have HW1 := Lib.hid hw1
  have HMB := Lib.hid hmb
  have HEB := Lib.hid heb
  have HROW := Lib.hid hrow
  have HNB := Lib.hid hnb
  have HBY := Lib.hid hby
  have HNC := Lib.hid hnc
  have HNIL := Lib.hid hnil
  have HNL := Lib.hid hn
  have HML := Lib.hid hm
  have HN1 := Lib.hid (refn_any mb Ab nb cb 0 false bs 0 1 w1 hBx1 (RowX.row (HRX.out w1 (Fr.refl _ _))) hnb2 hnb (Nat.zero_le _) hby)
  obtain ⟨i9, hi9, hz9a, hz9b, hz9c⟩ := info_parts info9
  obtain ⟨i3, hi3, hz3a, hz3b, hz3c⟩ := info_parts info3
  clear hrow hnb hby hnc hnil hn hm hw1 hb1 hz1 hA1 hB1 hQ1 hM1 hE1 hBx1 hmb heb hord
  go_enter Tryd.func32, Tryd.ntmps32
  go_upto_region 3 with fail
  rw [show w.heap.size + 1 + 1 + 1 = eb from by rw [HEB.out], show w.heap.size + 1 + 1 = mb from by rw [HMB.out], ← HW1.out]
  clear HW1
  go_upto_region 4 with (go_at_call 59; refine HN1.out.mono ?_; rintro e w2 ⟨kd, I1, b1, hnx1, rfl, hx2, hg2⟩)
  have HNX1 := Lib.hid hnx1
  have HF2m := Lib.hid (show Fr (fun i => i = mb) w1 w2 from (Fr.of_grown hg2).mono (fun i _ hi => (Option.some.inj hi).symm))
  have HF2 := Lib.hid (show Fr (fun i => i = mb ∨ i = eb) w1 w2 from HF2m.out.mono (fun i _ hi => .inl hi))
  have HI1 := Lib.hid (show I1 ≤ bs.length from hnx1.le (Nat.zero_le _))
  have HN2 := Lib.hid (refn_any mb Ab nb cb I1 b1 bs 0 1099511627776 w2 hx2 (RowX.row (HRX.out w2 HF2.out)) hnb2 HNB.out (by rw [HNB.out]; exact HI1.out) HBY.out)
  clear hnx1 hx2 hg2 HN1
  go_upto_region 5 with (go_at_call 59; refine HN2.out.mono ?_; rintro e w3 ⟨t0, I, bad, hnx2, rfl, hx3, hg3⟩)
  have HFIT := Lib.hid (fit_start (L := L) (M := M) HNX1.out hnx2)
  have HTB := Lib.hid (hnx2.bd (by omega) (by omega))
  have HI := Lib.hid (show I ≤ bs.length from hnx2.le HI1.out)
  have HF3 := Lib.hid (show Fr (fun i => i = mb ∨ i = eb) w1 w3 from HF2.out.trans ((Fr.of_grown hg3).mono (fun i _ hi => .inl (Option.some.inj hi).symm)))
  have HB3 := Lib.hid hx3
  have HK3 := Lib.hid (show Blk w3 eb 46 #[.bool false, .int .i64 0, .int .i64 0, .slice none 0 0, .slice none 0 0] from by
    have h1 : Fr (fun i => i = mb) w2 w3 := (Fr.of_grown hg3).mono (fun i _ hi => (Option.some.inj hi).symm)
    exact ((HF2m.out.trans h1).block _ HST1.out.2.lt (by have := HORD.out; show ¬ (eb = mb); omega)).trans HST1.out.2)
  clear hnx2 hx3 hg3 HN2
  by_cases hkd : kd = 1
  · have c1 : (kd == 1) = true := by rw [beq_iff_eq]; exact hkd
    have HFZ0 := Lib.hid (HFIT.out.1 hkd)
    have e0 : w3.cell? ⟨eb, 0, none⟩ = some (.bool false) := by rw [HK3.out.cell 0]; rfl
    have f0 : w3.frozen? ⟨eb, 0, none⟩ = false := HK3.out.frozen 0
    have e1 : w3.cell? ⟨eb, 1, none⟩ = some (.int .i64 0) := by rw [HK3.out.cell 1]; rfl
    have f1 : w3.frozen? ⟨eb, 1, none⟩ = false := HK3.out.frozen 1
    clear hkd
    go_upto_region 17 with fail
    clear e0 f0 e1 f1 c1
    obtain ⟨wx, hwx⟩ : ∃ wx, wx = (w3.setCell ⟨eb, 0, none⟩ (.bool true)).setCell ⟨eb, 1, none⟩ (.int .i64 t0) := ⟨_, rfl⟩
    rw [← hwx]
    have hf6 : Fr (fun i => i = eb) w3 wx := by rw [hwx]; exact ((Fr.refl (fun i => i = eb) w3).set_ (.inl (show eb = eb from rfl)) _).set_ (.inl (show eb = eb from rfl)) _
    have HFX := Lib.hid (show Fr (fun i => i = mb ∨ i = eb) w1 wx from HF3.out.trans (hf6.mono (fun i _ hi => .inr hi)))
    obtain ⟨tk, htk⟩ : ∃ tk, tk = true := ⟨_, rfl⟩
    obtain ⟨nw, hnw⟩ : ∃ nw : Int, nw = t0 := ⟨_, rfl⟩
    obtain ⟨E, hE⟩ : ∃ E : Option Addr, E = none := ⟨_, rfl⟩
    obtain ⟨F, hF⟩ : ∃ F : Option Addr, F = none := ⟨_, rfl⟩
    obtain ⟨p, hp⟩ : ∃ p : Nat, p = 0 := ⟨_, rfl⟩
    obtain ⟨q, hq⟩ : ∃ q : Nat, q = 0 := ⟨_, rfl⟩
    obtain ⟨x, hx⟩ : ∃ x : Nat, x = 0 := ⟨_, rfl⟩
    obtain ⟨y, hy⟩ : ∃ y : Nat, y = 0 := ⟨_, rfl⟩
    obtain ⟨t, ht⟩ : ∃ t : Int, t = 0 := ⟨_, rfl⟩
    obtain ⟨D, hD⟩ : ∃ D : List ByteArray, D = [] := ⟨_, rfl⟩
    obtain ⟨X, hX⟩ : ∃ X : List Int, X = [] := ⟨_, rfl⟩
    have HFZ := Lib.hid (show FitZ L M bs tk nw t D X I bad from by rw [htk, hnw, ht, hD, hX]; exact HFZ0.out)
    have HKX := Lib.hid (show Blk wx eb 46 #[.bool tk, .int .i64 nw, .int .i64 t, .slice E p q, .slice F x y] from by
      rw [htk, hnw, ht, hE, hF, hp, hq, hx, hy, hwx]
      exact (HK3.out.set_ 0 _).set_ 1 _)
    have HBXR := Lib.hid (show Bx wx mb (.slice Ab nb cb) I bad from HB3.out.frs hf6 (by have h1 := HORD.out; have h2 := HF3.out.size; omega) (by have h1 := HORD.out; show ¬ (mb = eb); omega))
    have HZK := Lib.hid (show ∀ W, Fr (fun i => i = w.heap.size + 1) wx W → EvO W ⟨E, p, q, F, x, y, t, D, X⟩ from fun W _ => by
      rw [hD, hX, hE, hF, hp, hq, hx, hy]
      exact ⟨World.ownsRow_nil _ _ _ _, World.ownsRow_nil _ _ _ _, fun s hs => by cases hs⟩)
    have HZX := Lib.hid (EvO.evg (HZK.out wx (Fr.refl _ _)))
    have HPX := Lib.hid (show p ≤ 1000 ∧ x ≤ 1000 by omega)
    have HRS0 := HRES.out wx HFX.out
    have HRS := Lib.hid HRS0.2
    obtain ⟨⟨a0, a1⟩, _⟩ := HRS0
    have HBW := Lib.hid (HBWW.out wx HFX.out)
    clear hwx hf6 htk hnw hE hF hp hq hx hy ht hD hX
    have k0 : wx.cell? ⟨eb, 0, none⟩ = some (.bool tk) := by rw [HKX.out.cell 0]; rfl
    have k1 : wx.cell? ⟨eb, 1, none⟩ = some (.int .i64 nw) := by rw [HKX.out.cell 1]; rfl
    have k2 : wx.cell? ⟨eb, 2, none⟩ = some (.int .i64 t) := by rw [HKX.out.cell 2]; rfl
    have k3 : wx.cell? ⟨eb, 3, none⟩ = some (.slice E p q) := by rw [HKX.out.cell 3]; rfl
    have k4 : wx.cell? ⟨eb, 4, none⟩ = some (.slice F x y) := by rw [HKX.out.cell 4]; rfl
    have HEC := Lib.hid (refencode_any A B _ c _ d L M ⟨tk, nw, ⟨E, p, q, F, x, y, t, D, X⟩⟩ wx HZX.out HNL.out HML.out hn2 hm2 (by show p ≤ _; have := HPX.out; omega) (by show x ≤ _; have := HPX.out; omega))
    have HKF := Lib.hid (fun W (hb : Below wx.heap.size wx W) => show Bx W mb (.slice Ab nb cb) I bad ∧ Blk W eb 46 #[.bool tk, .int .i64 nw, .int .i64 t, .slice E p q, .slice F x y] ∧ Blk W (w.heap.size + 1) 46 #[.bool false, .int .i64 0, .int .i64 0, .slice none 0 0, .slice none 0 0] from ⟨HBXR.out.frs (S := fun _ => False) (Fr.of_below hb) (by have := HKX.out.lt; have := HORD.out; omega) (fun h => h), HKX.out.below hb HKX.out.lt, HRS.out.below hb HRS.out.lt⟩)
    obtain ⟨rw, hrw⟩ := bool_of (bad = false ∧ I = nb)
    have HRW := Lib.hid hrw
    clear hrw
    go_wp2_with fail
    refine HEC.out.mono ?_
    rintro e w9 hE9
    have hb9 : Below wx.heap.size wx w9 := by rcases hE9 with ⟨_, _, h⟩ | ⟨_, _, _, _, _, _, h⟩ <;> exact h
    obtain ⟨d1, d2, d3⟩ := HKF.out w9 hb9
    have HWH := Lib.hid (whole_any mb Ab nb cb I bad w9 d1 rw HRW.out)
    have HB9 := Lib.hid hb9
    clear d1 d2 d3 hb9 k0 k1 k2 k3 k4 a0 a1
    rcases hE9 with ⟨hnr, rfl, _⟩ | ⟨hrt, g, cap, rfl, hc9, ho9, _⟩
    · have HNO := Lib.hid (show ∀ z1, rightJ L M z1 → encJ z1 ≠ bs from fun z1 h1 h2 => hnr (by
        obtain ⟨_, _, g1, g2, g3, g4, g5⟩ := HFZ.out z1 h1 h2
        exact (SameJ.symm ⟨g1, g2, g3, g4, g5⟩).right h1))
      clear hnr
      go_wp2_with fail
      refine HWH.out.mono ?_
      rintro e w10 ⟨rfl, hk10⟩
      have hb10 : Below w9.heap.size w9 w10 := by obtain ⟨kk, rfl⟩ := hk10; exact below_drewN (Below.refl _ _) kk
      have HB10 := Lib.hid (bthen HBW.out (bthen HB9.out hb10))
      obtain ⟨d1, d2, d3⟩ := HKF.out w10 (bthen HB9.out hb10)
      have x0 := d3.cell 0
      have x1 := d3.cell 1
      have x2 := d3.cell 2
      have x3 := d3.cell 3
      have x4 := d3.cell 4
      simp at x0 x1 x2 x3 x4
      have f0 := d3.frozen 0
      have f1 := d3.frozen 1
      have f2 := d3.frozen 2
      have f3 := d3.frozen 3
      have f4 := d3.frozen 4
      have hGw := d3.lt
      clear d1 d2 d3 hk10 hb10
      cases rw with
      | false =>
        go_wp2_with fail
        refine bodyPost_ret (v := .tuple #[.agg #[.bool false, .int .i64 0, .int .i64 0, .slice none 0 0, .slice none 0 0], .int .i64 191]) (by simp [results, Tryd.results32, go_sem, x0, x1, x2, x3, x4]) rfl ?_
        exact .inr ⟨HNO.out, rfl, (((((HB10.out.setCell (p := ⟨w.heap.size + 1, 0, none⟩) (Nat.le_succ _) _).setCell (p := ⟨w.heap.size + 1, 1, none⟩) (Nat.le_succ _) _).setCell (p := ⟨w.heap.size + 1, 2, none⟩) (Nat.le_succ _) _).setCell (p := ⟨w.heap.size + 1, 3, none⟩) (Nat.le_succ _) _).setCell (p := ⟨w.heap.size + 1, 4, none⟩) (Nat.le_succ _) _)⟩
      | true =>
        go_wp2_with fail
        refine bodyPost_ret (v := .tuple #[.agg #[.bool false, .int .i64 0, .int .i64 0, .slice none 0 0, .slice none 0 0], .int .i64 191]) (by simp [results, Tryd.results32, go_sem, x0, x1, x2, x3, x4]) rfl ?_
        exact .inr ⟨HNO.out, rfl, (((((HB10.out.setCell (p := ⟨w.heap.size + 1, 0, none⟩) (Nat.le_succ _) _).setCell (p := ⟨w.heap.size + 1, 1, none⟩) (Nat.le_succ _) _).setCell (p := ⟨w.heap.size + 1, 2, none⟩) (Nat.le_succ _) _).setCell (p := ⟨w.heap.size + 1, 3, none⟩) (Nat.le_succ _) _).setCell (p := ⟨w.heap.size + 1, 4, none⟩) (Nat.le_succ _) _)⟩
    · have HRT := Lib.hid hrt
      obtain ⟨Y, hY⟩ : ∃ Y, Y = encJ ⟨tk, nw, ⟨E, p, q, F, x, y, t, D, X⟩⟩ := ⟨_, rfl⟩
      rw [← hY] at hc9 ho9 ⊢
      obtain ⟨ly, hly⟩ : ∃ ly, ly = Y.length := ⟨_, rfl⟩
      rw [← hly] at hc9 ho9 ⊢
      have HRY := Lib.hid (row_own ho9)
      have HY := Lib.hid hY
      have HLY := Lib.hid hly
      clear hrt hY hly ho9
      go_wp2_with fail
      refine HWH.out.mono ?_
      rintro e w10 ⟨rfl, hk10⟩
      have hb10 : Below w9.heap.size w9 w10 := by obtain ⟨kk, rfl⟩ := hk10; exact below_drewN (Below.refl _ _) kk
      have HB10 := Lib.hid (bthen HBW.out (bthen HB9.out hb10))
      obtain ⟨d1, d2, d3⟩ := HKF.out w10 (bthen HB9.out hb10)
      have x0 := d3.cell 0
      have x1 := d3.cell 1
      have x2 := d3.cell 2
      have x3 := d3.cell 3
      have x4 := d3.cell 4
      simp at x0 x1 x2 x3 x4
      have f0 := d3.frozen 0
      have f1 := d3.frozen 1
      have f2 := d3.frozen 2
      have f3 := d3.frozen 3
      have f4 := d3.frozen 4
      have hGw := d3.lt
      have HF10 := Lib.hid (show Fr (fun i => i = w.heap.size + 1) wx w10 from Fr.of_below (bthen HB9.out hb10))
      have HK10 := Lib.hid d2
      obtain ⟨s1, hs1⟩ : ∃ s1, s1 = strOfNums Y := ⟨_, rfl⟩
      obtain ⟨s2, hs2⟩ : ∃ s2, s2 = strOfNums bs := ⟨_, rfl⟩
      have hcv1 : Sem.run Tryd.prog (convert 25 9 (.slice (some ⟨g, 0, none⟩) ly cap)) w10 = .ok (.string s1) w10 := by rw [hs1]; exact conv_any (HRY.out.keep (Nat.le_refl _) hb10) HLY.out
      have hcv2 : Sem.run Tryd.prog (convert 25 9 (.slice Ab nb cb)) w10 = .ok (.string s2) w10 := by rw [hs2]; exact conv_any (HROW.out.keep (Nat.le_refl _) HB10.out) HNB.out
      have HS1 := Lib.hid hs1
      have HS2 := Lib.hid hs2
      clear d1 d2 d3 hk10 hb10 hs1 hs2
      cases rw with
      | false =>
        have HNO := Lib.hid (show ∀ z1, rightJ L M z1 → encJ z1 ≠ bs from fun z1 h1 h2 => by
          obtain ⟨g1, g2, _⟩ := HFZ.out z1 h1 h2
          have h3 : I = nb := by
            have h4 := congrArg List.length g2
            rw [List.length_drop, List.length_nil] at h4
            have h5 := HI.out
            have h6 := HNB.out
            omega
          have := HRW.out.2 ⟨g1, h3⟩
          cases this)
        clear hcv1 hcv2
        go_wp2_with fail
        refine bodyPost_ret (v := .tuple #[.agg #[.bool false, .int .i64 0, .int .i64 0, .slice none 0 0, .slice none 0 0], .int .i64 191]) (by simp [results, Tryd.results32, go_sem, x0, x1, x2, x3, x4]) rfl ?_
        exact .inr ⟨HNO.out, rfl, (((((HB10.out.setCell (p := ⟨w.heap.size + 1, 0, none⟩) (Nat.le_succ _) _).setCell (p := ⟨w.heap.size + 1, 1, none⟩) (Nat.le_succ _) _).setCell (p := ⟨w.heap.size + 1, 2, none⟩) (Nat.le_succ _) _).setCell (p := ⟨w.heap.size + 1, 3, none⟩) (Nat.le_succ _) _).setCell (p := ⟨w.heap.size + 1, 4, none⟩) (Nat.le_succ _) _)⟩
      | true =>
        by_cases heq : Y = bs
        · have eqt : (s1.toList == s2.toList) = true := by rw [HS1.out, HS2.out, heq]; simp
          have HEQ := Lib.hid heq
          have k0 : w10.cell? ⟨eb, 0, none⟩ = some (.bool tk) := by rw [HK10.out.cell 0]; rfl
          have k1 : w10.cell? ⟨eb, 1, none⟩ = some (.int .i64 nw) := by rw [HK10.out.cell 1]; rfl
          have k2 : w10.cell? ⟨eb, 2, none⟩ = some (.int .i64 t) := by rw [HK10.out.cell 2]; rfl
          have k3 : w10.cell? ⟨eb, 3, none⟩ = some (.slice E p q) := by rw [HK10.out.cell 3]; rfl
          have k4 : w10.cell? ⟨eb, 4, none⟩ = some (.slice F x y) := by rw [HK10.out.cell 4]; rfl
          clear heq
          go_wp2_with fail
          refine bodyPost_ret (v := .tuple #[.agg #[.bool tk, .int .i64 nw, .int .i64 t, .slice E p q, .slice F x y], .int .i64 0]) (by simp [results, Tryd.results32, go_sem, x0, x1, x2, x3, x4]) rfl ?_
          exact .inl ⟨⟨tk, nw, ⟨E, p, q, F, x, y, t, D, X⟩⟩, HRT.out, by rw [← HY.out, HEQ.out], HZK.out _ (((((HF10.out.set_ (.inl (show w.heap.size + 1 = w.heap.size + 1 from rfl)) _).set_ (.inl (show w.heap.size + 1 = w.heap.size + 1 from rfl)) _).set_ (.inl (show w.heap.size + 1 = w.heap.size + 1 from rfl)) _).set_ (.inl (show w.heap.size + 1 = w.heap.size + 1 from rfl)) _).set_ (.inl (show w.heap.size + 1 = w.heap.size + 1 from rfl)) _), rfl, (((((HB10.out.setCell (p := ⟨w.heap.size + 1, 0, none⟩) (Nat.le_succ _) _).setCell (p := ⟨w.heap.size + 1, 1, none⟩) (Nat.le_succ _) _).setCell (p := ⟨w.heap.size + 1, 2, none⟩) (Nat.le_succ _) _).setCell (p := ⟨w.heap.size + 1, 3, none⟩) (Nat.le_succ _) _).setCell (p := ⟨w.heap.size + 1, 4, none⟩) (Nat.le_succ _) _)⟩
        · have HNO := Lib.hid (show ∀ z1, rightJ L M z1 → encJ z1 ≠ bs from fun z1 h1 h2 => heq (by
            obtain ⟨_, _, g1, g2, g3, g4, g5⟩ := HFZ.out z1 h1 h2
            rw [HY.out, ← h2]
            exact (SameJ.mk g1 g2 g3 g4 g5).enc))
          have eqf : (s1.toList == s2.toList) = false := by
            rw [beq_eq_false_iff_ne]
            intro h
            rw [ByteArray.toList_eq, ByteArray.toList_eq] at h
            exact heq (strOf_inj (by rw [HY.out]; exact encJ_bytes _) HBY.out (by rw [← HS1.out, ← HS2.out]; exact ByteArray.ext (Array.toList_inj.1 h)))
          clear heq
          go_wp2_with fail
          refine bodyPost_ret (v := .tuple #[.agg #[.bool false, .int .i64 0, .int .i64 0, .slice none 0 0, .slice none 0 0], .int .i64 191]) (by simp [results, Tryd.results32, go_sem, x0, x1, x2, x3, x4]) rfl ?_
          exact .inr ⟨HNO.out, rfl, (((((HB10.out.setCell (p := ⟨w.heap.size + 1, 0, none⟩) (Nat.le_succ _) _).setCell (p := ⟨w.heap.size + 1, 1, none⟩) (Nat.le_succ _) _).setCell (p := ⟨w.heap.size + 1, 2, none⟩) (Nat.le_succ _) _).setCell (p := ⟨w.heap.size + 1, 3, none⟩) (Nat.le_succ _) _).setCell (p := ⟨w.heap.size + 1, 4, none⟩) (Nat.le_succ _) _)⟩
  · have c1 : (kd == 1) = false := by rw [beq_eq_false_iff_ne]; exact hkd
    have HFD0 := Lib.hid (HFIT.out.2 hkd)
    have e0 : w3.cell? ⟨eb, 2, none⟩ = some (.int .i64 0) := by rw [HK3.out.cell 2]; rfl
    have f0 : w3.frozen? ⟨eb, 2, none⟩ = false := HK3.out.frozen 2
    clear hkd
    go_upto_region 9 with fail
    clear e0 f0 c1
    obtain ⟨wz, hwz⟩ : ∃ wz, wz = w3.setCell ⟨eb, 2, none⟩ (.int .i64 t0) := ⟨_, rfl⟩
    rw [← hwz]
    obtain ⟨t, ht⟩ : ∃ t : Int, t = t0 := ⟨_, rfl⟩
    have HST0 := Lib.hid (show RSt w1 wz mb eb (.slice Ab nb cb) I bad t none 0 0 [] none 0 0 [] from by
      have hf6 : Fr (fun i => i = eb) w3 wz := by rw [hwz]; exact (Fr.refl (fun i => i = eb) w3).set_ (.inl (show eb = eb from rfl)) _
      refine ⟨HB3.out.frs hf6 (by have h1 := HORD.out; have h2 := HF3.out.size; omega) (by have h1 := HORD.out; show ¬ (mb = eb); omega), ?_, World.ownsRow_nil _ _ _ _, World.ownsRow_nil _ _ _ _, HF3.out.trans (hf6.mono (fun i _ hi => .inr hi)), rfl, rfl, HORD.out.1, HORD.out.2.1⟩
      rw [hwz, ht]; exact HK3.out.set_ 2 _)
    have HFD0 := Lib.hid (show FitD L M bs t 0 [] 0 [] I bad from by rw [ht]; exact HFD0.out)
    clear hwz ht HB3 HK3 HFIT
    obtain ⟨⟨c1, c2⟩, _⟩ := HRES.out wz HST0.out.fr
    go_wp2_with fail
    clear c1 c2
    go_loopw [10] (fun i wr => ∃ (k I : Nat) (bad : Bool) (E : Option Addr) (q : Nat) (D : List ByteArray), k ≤ n ∧ i = .int .i64 k ∧ Hid (RSt w1 wr mb eb (.slice Ab nb cb) I bad t E k q D none 0 0 []) ∧ Hid (I ≤ bs.length) ∧ Hid (FitD L M bs t k D 0 [] I bad) ∧ Hid (∀ s ∈ D, s.size ≤ 24)) (fun i _ => n - (RowKit.intOf i).toNat)
    case atStart => exact ⟨0, I, bad, none, 0, [], Nat.zero_le _, rfl, HST0, HI, HFD0, Lib.hid (fun s hs => by cases hs)⟩
    case round =>
      clear HI HFD0 HST0
      obtain ⟨k, I, bad, E, q, D, hk, rfl, HST, HI, HDS, HSZ⟩ := hrel
      obtain ⟨⟨c1, c2⟩, _⟩ := HRES.out wr HST.out.fr
      by_cases hlt : k < n
      · have hki : (k : Int) < (n : Int) := by omega
        have hk0 : (0 : Int) ≤ (k : Int) := by omega
        go_upto_region 12 with fail
        clear c1 c2
        have HTK := Lib.hid (reft_any mb Ab nb cb I bad bs 24 wr.drew (HST.out.bx.drew 1) (HRX.out _ (HST.out.fr.drew 1)) HNIL.out HNC.out hnb2 HNB.out (by rw [HNB.out]; exact HI.out) HBY.out)
        have HFD := Lib.hid (show Fr (fun i => i = mb) wr wr.drew from (Fr.refl _ _).drew 1)
        have HL0 := Lib.hid (show wr.drew.cell? ⟨eb, 3, none⟩ = some (.slice E k q) from cell_on (below_drewN (Below.refl _ _) 1) (by rw [HST.out.blk.cell 3]; rfl))
        have HLF := Lib.hid (fun w2 (hf : Fr (fun i => i = mb) wr.drew w2) => show w2.cell? ⟨eb, 3, none⟩ = some (.slice E k q) from by
          have hb := (HFD.out.trans hf).block _ HST.out.blk.lt (fun e => by have := HST.out.mlt; omega)
          have hk : Blk w2 eb 46 #[.bool false, .int .i64 0, .int .i64 t, .slice E k q, .slice none 0 0] := hb.trans HST.out.blk
          rw [hk.cell 3]; rfl)
        have HOW := Lib.hid (fun w2 (hf : Fr (fun i => i = mb) wr.drew w2) {u : Value} => HST.out.ownD (u := u) (HFD.out.trans hf))
        have HBK := Lib.hid (fun w2 w4 (hf : Fr (fun i => i = mb) wr.drew w2) {u : Value} hg => HST.out.cellD (u := u) (w4 := w4) (HFD.out.trans hf) hg)
        refine wp_region_held_drew (S := fun _ => True) (by kernel_rfl) trivial ?_
        intro hHeld
        refine take_want (i := 0) (v := ?v0k1) rfl (by kernel_rfl) (by kernel_rfl) (by kernel_rfl) (fun _ _ _ h => h) (by rfl) ?y0k1 (by assumption) ?r0k1
        case y0k1 => (intro w hSw; go_simp; all_goals with_reducible rfl)
        (try simp only [Act.put, List.setIfInBounds_toArray, List.set_cons_zero, List.set_cons_succ])
        refine take_want (i := 1) (v := ?v1k2) rfl (by kernel_rfl) (by kernel_rfl) (by kernel_rfl) (fun _ _ _ h => h) (by rfl) ?y1k2 (by assumption) ?r1k2
        case y1k2 => (intro w hSw; go_simp; all_goals with_reducible rfl)
        (try simp only [Act.put, List.setIfInBounds_toArray, List.set_cons_zero, List.set_cons_succ])
        refine take_want (i := 3) (v := ?v3k3) rfl (by kernel_rfl) (by kernel_rfl) (by kernel_rfl) (fun _ _ _ h => h) (by rfl) ?y3k3 (by assumption) ?r3k3
        case y3k3 => (intro w hSw; go_simp; all_goals with_reducible rfl)
        (try simp only [Act.put, List.setIfInBounds_toArray, List.set_cons_zero, List.set_cons_succ])
        refine wpAnyH_ready (rs := [2, 4]) (by kernel_rfl) (by simp) ?_
        refine AllReadyH.cons rfl (fun K hK => ?_) (AllReadyH.cons rfl (fun K hK => ?_) AllReadyH.nil)
        · have o2 := HL0.out
          go_simp
          clear o2
          refine hK.out _ _ trivial (fun hHeld => ?_)
          clear hK K
          (try simp only [Act.put, List.setIfInBounds_toArray, List.set_cons_zero, List.set_cons_succ])
          refine wpAnyH_ready (rs := [4]) (by kernel_rfl) (by simp) ?_
          refine AllReadyH.cons rfl (fun K hK => ?_) AllReadyH.nil
          go_simp
          (go_at_call 60; refine HTK.out.mono ?_; rintro e w2 ⟨x, J, b, hnx, rfl, h2, hf2⟩)
          have HNX := Lib.hid hnx
          have H2 := Lib.hid h2
          have HF2 := Lib.hid (show Fr (fun i => i = mb) wr.drew w2 from (Fr.of_grown hf2).mono (fun i _ hi => (Option.some.inj hi).symm))
          have HL2 := Lib.hid (HLF.out w2 HF2.out)
          clear h2 hf2 hnx
          refine hK.out _ _ trivial (fun hHeld => ?_)
          clear hK K
          (try simp only [Act.put, List.setIfInBounds_toArray, List.set_cons_zero, List.set_cons_succ])
          refine wpAnyH_ready (rs := [5]) (by kernel_rfl) (by simp) ?_
          refine AllReadyH.cons rfl (fun K hK => ?_) AllReadyH.nil
          go_simp
          have HL3 := Lib.hid (show (w2.alloc (.cells #[.string x] 9)).cell? ⟨eb, 3, none⟩ = some (.slice E k q) from cell_on (bpush (Below.refl _ _) _) HL2.out)
          refine hK.out _ _ trivial (fun hHeld => ?_)
          clear hK K
          (try simp only [Act.put, List.setIfInBounds_toArray, List.set_cons_zero, List.set_cons_succ])
          refine wpAnyH_ready (rs := [6]) (by kernel_rfl) (by simp) ?_
          refine AllReadyH.cons rfl (fun K hK => ?_) AllReadyH.nil
          refine step_app1 _ _ 22 rfl w1.heap.size 9 i9 _ 16 Tryd.underlying22 hi9 hz9a hz9b hz9c rfl (.slice E k q) k (texts D) (by first | rfl | (simp; done)) (HOW.out w2 HF2.out (u := .string x)).1 ⟨w2.heap.size, 0, none⟩ (.string x) (by first | rfl | (simp; done)) (cell_one_new _ _ _) rfl (by omega) (by omega) (HOW.out w2 HF2.out (u := .string x)).2 ?_
          intro v4 w4 ho4 hg4
          have HM4 := Lib.hid (HST.out.moreD H2.out (HFD.out.trans HF2.out) ho4 hg4)
          obtain ⟨A4, c4, hv4, hst4⟩ := HM4.out
          have HV4 := Lib.hid hst4
          have d0 := HBK.out w2 w4 HF2.out (u := .string x) hg4
          subst hv4
          clear ho4 hg4 hst4 HM4
          refine hK.out _ _ trivial (fun hHeld => ?_)
          clear hK K
          (try simp only [Act.put, List.setIfInBounds_toArray, List.set_cons_zero, List.set_cons_succ])
          refine take_want (i := 7) (v := ?v7k4) rfl (by kernel_rfl) (by kernel_rfl) (by kernel_rfl) (fun _ _ _ h => h) (by rfl) ?y7k4 (by assumption) ?r7k4
          case y7k4 => (intro w hSw; go_simp; all_goals with_reducible rfl)
          (try simp only [Act.put, List.setIfInBounds_toArray, List.set_cons_zero, List.set_cons_succ])
          refine take_want (i := 8) (v := ?v8k5) rfl (by kernel_rfl) (by kernel_rfl) (by kernel_rfl) (fun _ _ _ h => h) (by rfl) ?y8k5 (by assumption) ?r8k5
          case y8k5 => (intro w hSw; go_simp; all_goals with_reducible rfl)
          (try simp only [Act.put, List.setIfInBounds_toArray, List.set_cons_zero, List.set_cons_succ])
          refine wpAnyH_ready (rs := [9]) (by kernel_rfl) (by simp) ?_
          refine AllReadyH.cons rfl (fun K hK => ?_) AllReadyH.nil
          have o2 := d0.1
          have of2 := d0.2
          go_simp
          clear o2 of2 d0
          refine hK.out _ _ trivial (fun hHeld => ?_)
          clear hK K
          (try simp only [Act.put, List.setIfInBounds_toArray, List.set_cons_zero, List.set_cons_succ])
          refine wpAnyH_done (by kernel_rfl) ?_ _
          go_wp2_with fail
          go_roundw
          case rel => exact ⟨k + 1, J, b, A4, c4, _, by omega, by go_num, HV4, Lib.hid (HNX.out.le2 HI.out), Lib.hid (HDS.out.moreD (by have := HNL.out; omega) HNX.out), Lib.hid (fun s hs => (List.mem_append.1 hs).elim (HSZ.out s) (fun h => by rw [List.mem_singleton.1 h]; exact HNX.out.sz))⟩
          case measure => simp [RowKit.intOf]; omega
        · go_simp
          (go_at_call 60; refine HTK.out.mono ?_; rintro e w2 ⟨x, J, b, hnx, rfl, h2, hf2⟩)
          have HNX := Lib.hid hnx
          have H2 := Lib.hid h2
          have HF2 := Lib.hid (show Fr (fun i => i = mb) wr.drew w2 from (Fr.of_grown hf2).mono (fun i _ hi => (Option.some.inj hi).symm))
          have HL2 := Lib.hid (HLF.out w2 HF2.out)
          clear h2 hf2 hnx
          refine hK.out _ _ trivial (fun hHeld => ?_)
          clear hK K
          (try simp only [Act.put, List.setIfInBounds_toArray, List.set_cons_zero, List.set_cons_succ])
          refine wpAnyH_ready (rs := [2, 5]) (by kernel_rfl) (by simp) ?_
          refine AllReadyH.cons rfl (fun K hK => ?_) (AllReadyH.cons rfl (fun K hK => ?_) AllReadyH.nil)
          · have o2 := HL2.out
            go_simp
            clear o2
            refine hK.out _ _ trivial (fun hHeld => ?_)
            clear hK K
            (try simp only [Act.put, List.setIfInBounds_toArray, List.set_cons_zero, List.set_cons_succ])
            refine wpAnyH_ready (rs := [5]) (by kernel_rfl) (by simp) ?_
            refine AllReadyH.cons rfl (fun K hK => ?_) AllReadyH.nil
            go_simp
            have HL3 := Lib.hid (show (w2.alloc (.cells #[.string x] 9)).cell? ⟨eb, 3, none⟩ = some (.slice E k q) from cell_on (bpush (Below.refl _ _) _) HL2.out)
            refine hK.out _ _ trivial (fun hHeld => ?_)
            clear hK K
            (try simp only [Act.put, List.setIfInBounds_toArray, List.set_cons_zero, List.set_cons_succ])
            refine wpAnyH_ready (rs := [6]) (by kernel_rfl) (by simp) ?_
            refine AllReadyH.cons rfl (fun K hK => ?_) AllReadyH.nil
            refine step_app1 _ _ 22 rfl w1.heap.size 9 i9 _ 16 Tryd.underlying22 hi9 hz9a hz9b hz9c rfl (.slice E k q) k (texts D) (by first | rfl | (simp; done)) (HOW.out w2 HF2.out (u := .string x)).1 ⟨w2.heap.size, 0, none⟩ (.string x) (by first | rfl | (simp; done)) (cell_one_new _ _ _) rfl (by omega) (by omega) (HOW.out w2 HF2.out (u := .string x)).2 ?_
            intro v4 w4 ho4 hg4
            have HM4 := Lib.hid (HST.out.moreD H2.out (HFD.out.trans HF2.out) ho4 hg4)
            obtain ⟨A4, c4, hv4, hst4⟩ := HM4.out
            have HV4 := Lib.hid hst4
            have d0 := HBK.out w2 w4 HF2.out (u := .string x) hg4
            subst hv4
            clear ho4 hg4 hst4 HM4
            refine hK.out _ _ trivial (fun hHeld => ?_)
            clear hK K
            (try simp only [Act.put, List.setIfInBounds_toArray, List.set_cons_zero, List.set_cons_succ])
            refine take_want (i := 7) (v := ?v7k6) rfl (by kernel_rfl) (by kernel_rfl) (by kernel_rfl) (fun _ _ _ h => h) (by rfl) ?y7k6 (by assumption) ?r7k6
            case y7k6 => (intro w hSw; go_simp; all_goals with_reducible rfl)
            (try simp only [Act.put, List.setIfInBounds_toArray, List.set_cons_zero, List.set_cons_succ])
            refine take_want (i := 8) (v := ?v8k7) rfl (by kernel_rfl) (by kernel_rfl) (by kernel_rfl) (fun _ _ _ h => h) (by rfl) ?y8k7 (by assumption) ?r8k7
            case y8k7 => (intro w hSw; go_simp; all_goals with_reducible rfl)
            (try simp only [Act.put, List.setIfInBounds_toArray, List.set_cons_zero, List.set_cons_succ])
            refine wpAnyH_ready (rs := [9]) (by kernel_rfl) (by simp) ?_
            refine AllReadyH.cons rfl (fun K hK => ?_) AllReadyH.nil
            have o2 := d0.1
            have of2 := d0.2
            go_simp
            clear o2 of2 d0
            refine hK.out _ _ trivial (fun hHeld => ?_)
            clear hK K
            (try simp only [Act.put, List.setIfInBounds_toArray, List.set_cons_zero, List.set_cons_succ])
            refine wpAnyH_done (by kernel_rfl) ?_ _
            go_wp2_with fail
            go_roundw
            case rel => exact ⟨k + 1, J, b, A4, c4, _, by omega, by go_num, HV4, Lib.hid (HNX.out.le2 HI.out), Lib.hid (HDS.out.moreD (by have := HNL.out; omega) HNX.out), Lib.hid (fun s hs => (List.mem_append.1 hs).elim (HSZ.out s) (fun h => by rw [List.mem_singleton.1 h]; exact HNX.out.sz))⟩
            case measure => simp [RowKit.intOf]; omega
          · go_simp
            have HL3 := Lib.hid (show (w2.alloc (.cells #[.string x] 9)).cell? ⟨eb, 3, none⟩ = some (.slice E k q) from cell_on (bpush (Below.refl _ _) _) HL2.out)
            refine hK.out _ _ trivial (fun hHeld => ?_)
            clear hK K
            (try simp only [Act.put, List.setIfInBounds_toArray, List.set_cons_zero, List.set_cons_succ])
            refine wpAnyH_ready (rs := [2]) (by kernel_rfl) (by simp) ?_
            refine AllReadyH.cons rfl (fun K hK => ?_) AllReadyH.nil
            have o2 := HL3.out
            go_simp
            clear o2
            refine hK.out _ _ trivial (fun hHeld => ?_)
            clear hK K
            (try simp only [Act.put, List.setIfInBounds_toArray, List.set_cons_zero, List.set_cons_succ])
            refine wpAnyH_ready (rs := [6]) (by kernel_rfl) (by simp) ?_
            refine AllReadyH.cons rfl (fun K hK => ?_) AllReadyH.nil
            refine step_app1 _ _ 22 rfl w1.heap.size 9 i9 _ 16 Tryd.underlying22 hi9 hz9a hz9b hz9c rfl (.slice E k q) k (texts D) (by first | rfl | (simp; done)) (HOW.out w2 HF2.out (u := .string x)).1 ⟨w2.heap.size, 0, none⟩ (.string x) (by first | rfl | (simp; done)) (cell_one_new _ _ _) rfl (by omega) (by omega) (HOW.out w2 HF2.out (u := .string x)).2 ?_
            intro v4 w4 ho4 hg4
            have HM4 := Lib.hid (HST.out.moreD H2.out (HFD.out.trans HF2.out) ho4 hg4)
            obtain ⟨A4, c4, hv4, hst4⟩ := HM4.out
            have HV4 := Lib.hid hst4
            have d0 := HBK.out w2 w4 HF2.out (u := .string x) hg4
            subst hv4
            clear ho4 hg4 hst4 HM4
            refine hK.out _ _ trivial (fun hHeld => ?_)
            clear hK K
            (try simp only [Act.put, List.setIfInBounds_toArray, List.set_cons_zero, List.set_cons_succ])
            refine take_want (i := 7) (v := ?v7k8) rfl (by kernel_rfl) (by kernel_rfl) (by kernel_rfl) (fun _ _ _ h => h) (by rfl) ?y7k8 (by assumption) ?r7k8
            case y7k8 => (intro w hSw; go_simp; all_goals with_reducible rfl)
            (try simp only [Act.put, List.setIfInBounds_toArray, List.set_cons_zero, List.set_cons_succ])
            refine take_want (i := 8) (v := ?v8k9) rfl (by kernel_rfl) (by kernel_rfl) (by kernel_rfl) (fun _ _ _ h => h) (by rfl) ?y8k9 (by assumption) ?r8k9
            case y8k9 => (intro w hSw; go_simp; all_goals with_reducible rfl)
            (try simp only [Act.put, List.setIfInBounds_toArray, List.set_cons_zero, List.set_cons_succ])
            refine wpAnyH_ready (rs := [9]) (by kernel_rfl) (by simp) ?_
            refine AllReadyH.cons rfl (fun K hK => ?_) AllReadyH.nil
            have o2 := d0.1
            have of2 := d0.2
            go_simp
            clear o2 of2 d0
            refine hK.out _ _ trivial (fun hHeld => ?_)
            clear hK K
            (try simp only [Act.put, List.setIfInBounds_toArray, List.set_cons_zero, List.set_cons_succ])
            refine wpAnyH_done (by kernel_rfl) ?_ _
            go_wp2_with fail
            go_roundw
            case rel => exact ⟨k + 1, J, b, A4, c4, _, by omega, by go_num, HV4, Lib.hid (HNX.out.le2 HI.out), Lib.hid (HDS.out.moreD (by have := HNL.out; omega) HNX.out), Lib.hid (fun s hs => (List.mem_append.1 hs).elim (HSZ.out s) (fun h => by rw [List.mem_singleton.1 h]; exact HNX.out.sz))⟩
            case measure => simp [RowKit.intOf]; omega
      · obtain rfl : k = n := by omega
        have hge : ¬ (k : Int) < (k : Int) := by omega
        have HSTD := Lib.hid HST.out
        have HID := Lib.hid HI.out
        have HFD1 := Lib.hid HDS.out
        obtain ⟨wo, rfl⟩ : ∃ wo : World, wo = wr := ⟨_, rfl⟩
        clear hlt HDS HST HI
        go_wp2_with fail
        clear c1 c2
        go_loopw [11] (fun i wr => ∃ (l I : Nat) (bad : Bool) (F : Option Addr) (y : Nat) (X : List Int), l ≤ m ∧ i = .int .i64 l ∧ Hid (RSt w1 wr mb eb (.slice Ab nb cb) I bad t E k q D F l y X) ∧ Hid (I ≤ bs.length) ∧ Hid (FitD L M bs t k D l X I bad)) (fun i _ => m - (RowKit.intOf i).toNat)
        case atStart => exact ⟨0, I, bad, none, 0, [], Nat.zero_le _, rfl, HSTD, HID, HFD1⟩
        case round =>
          clear HSTD HID HFD1
          obtain ⟨l, I, bad, F, y, X, hl, rfl, HST, HI, HXS⟩ := hrel
          obtain ⟨⟨c1, c2⟩, _⟩ := HRES.out wr HST.out.fr
          by_cases hlt : l < m
          · have hki : (l : Int) < (m : Int) := by omega
            have hk0 : (0 : Int) ≤ (l : Int) := by omega
            go_upto_region 16 with fail
            clear c1 c2
            have HTK := Lib.hid (refn_any mb Ab nb cb I bad bs (-4611686018427387904) 4611686018427387904 wr.drew (HST.out.bx.drew 1) (RowX.row (HRX.out _ (HST.out.fr.drew 1))) hnb2 HNB.out (by rw [HNB.out]; exact HI.out) HBY.out)
            have HFD := Lib.hid (show Fr (fun i => i = mb) wr wr.drew from (Fr.refl _ _).drew 1)
            have HL0 := Lib.hid (show wr.drew.cell? ⟨eb, 4, none⟩ = some (.slice F l y) from cell_on (below_drewN (Below.refl _ _) 1) (by rw [HST.out.blk.cell 4]; rfl))
            have HLF := Lib.hid (fun w2 (hf : Fr (fun i => i = mb) wr.drew w2) => show w2.cell? ⟨eb, 4, none⟩ = some (.slice F l y) from by
              have hb := (HFD.out.trans hf).block _ HST.out.blk.lt (fun e => by have := HST.out.mlt; omega)
              have hk : Blk w2 eb 46 #[.bool false, .int .i64 0, .int .i64 t, .slice E k q, .slice F l y] := hb.trans HST.out.blk
              rw [hk.cell 4]; rfl)
            have HOW := Lib.hid (fun w2 (hf : Fr (fun i => i = mb) wr.drew w2) {u : Value} => HST.out.ownX (u := u) (HFD.out.trans hf))
            have HBK := Lib.hid (fun w2 w4 (hf : Fr (fun i => i = mb) wr.drew w2) {u : Value} hg => HST.out.cellX (u := u) (w4 := w4) (HFD.out.trans hf) hg)
            refine wp_region_held_drew (S := fun _ => True) (by kernel_rfl) trivial ?_
            intro hHeld
            refine take_want (i := 0) (v := ?v0k10) rfl (by kernel_rfl) (by kernel_rfl) (by kernel_rfl) (fun _ _ _ h => h) (by rfl) ?y0k10 (by assumption) ?r0k10
            case y0k10 => (intro w hSw; go_simp; all_goals with_reducible rfl)
            (try simp only [Act.put, List.setIfInBounds_toArray, List.set_cons_zero, List.set_cons_succ])
            refine take_want (i := 1) (v := ?v1k11) rfl (by kernel_rfl) (by kernel_rfl) (by kernel_rfl) (fun _ _ _ h => h) (by rfl) ?y1k11 (by assumption) ?r1k11
            case y1k11 => (intro w hSw; go_simp; all_goals with_reducible rfl)
            (try simp only [Act.put, List.setIfInBounds_toArray, List.set_cons_zero, List.set_cons_succ])
            refine take_want (i := 3) (v := ?v3k12) rfl (by kernel_rfl) (by kernel_rfl) (by kernel_rfl) (fun _ _ _ h => h) (by rfl) ?y3k12 (by assumption) ?r3k12
            case y3k12 => (intro w hSw; go_simp; all_goals with_reducible rfl)
            (try simp only [Act.put, List.setIfInBounds_toArray, List.set_cons_zero, List.set_cons_succ])
            refine wpAnyH_ready (rs := [2, 4]) (by kernel_rfl) (by simp) ?_
            refine AllReadyH.cons rfl (fun K hK => ?_) (AllReadyH.cons rfl (fun K hK => ?_) AllReadyH.nil)
            · have o2 := HL0.out
              go_simp
              clear o2
              refine hK.out _ _ trivial (fun hHeld => ?_)
              clear hK K
              (try simp only [Act.put, List.setIfInBounds_toArray, List.set_cons_zero, List.set_cons_succ])
              refine wpAnyH_ready (rs := [4]) (by kernel_rfl) (by simp) ?_
              refine AllReadyH.cons rfl (fun K hK => ?_) AllReadyH.nil
              go_simp
              (go_at_call 59; refine HTK.out.mono ?_; rintro e w2 ⟨x, J, b, hnx, rfl, h2, hf2⟩)
              have HNX := Lib.hid hnx
              have H2 := Lib.hid h2
              have HF2 := Lib.hid (show Fr (fun i => i = mb) wr.drew w2 from (Fr.of_grown hf2).mono (fun i _ hi => (Option.some.inj hi).symm))
              have HL2 := Lib.hid (HLF.out w2 HF2.out)
              clear h2 hf2 hnx
              refine hK.out _ _ trivial (fun hHeld => ?_)
              clear hK K
              (try simp only [Act.put, List.setIfInBounds_toArray, List.set_cons_zero, List.set_cons_succ])
              refine wpAnyH_ready (rs := [5]) (by kernel_rfl) (by simp) ?_
              refine AllReadyH.cons rfl (fun K hK => ?_) AllReadyH.nil
              go_simp
              have HL3 := Lib.hid (show (w2.alloc (.cells #[.int .i64 x] 3)).cell? ⟨eb, 4, none⟩ = some (.slice F l y) from cell_on (bpush (Below.refl _ _) _) HL2.out)
              refine hK.out _ _ trivial (fun hHeld => ?_)
              clear hK K
              (try simp only [Act.put, List.setIfInBounds_toArray, List.set_cons_zero, List.set_cons_succ])
              refine wpAnyH_ready (rs := [6]) (by kernel_rfl) (by simp) ?_
              refine AllReadyH.cons rfl (fun K hK => ?_) AllReadyH.nil
              refine step_app1 _ _ 42 rfl w1.heap.size 3 i3 _ 8 Tryd.underlying42 hi3 hz3a hz3b hz3c rfl (.slice F l y) l (intsV X) (by first | rfl | (simp; done)) (HOW.out w2 HF2.out (u := .int .i64 x)).1 ⟨w2.heap.size, 0, none⟩ (.int .i64 x) (by first | rfl | (simp; done)) (cell_one_new _ _ _) rfl (by omega) (by omega) (HOW.out w2 HF2.out (u := .int .i64 x)).2 ?_
              intro v4 w4 ho4 hg4
              have HM4 := Lib.hid (HST.out.moreX H2.out (HFD.out.trans HF2.out) ho4 hg4)
              obtain ⟨A4, c4, hv4, hst4⟩ := HM4.out
              have HV4 := Lib.hid hst4
              have d0 := HBK.out w2 w4 HF2.out (u := .int .i64 x) hg4
              subst hv4
              clear ho4 hg4 hst4 HM4
              refine hK.out _ _ trivial (fun hHeld => ?_)
              clear hK K
              (try simp only [Act.put, List.setIfInBounds_toArray, List.set_cons_zero, List.set_cons_succ])
              refine take_want (i := 7) (v := ?v7k13) rfl (by kernel_rfl) (by kernel_rfl) (by kernel_rfl) (fun _ _ _ h => h) (by rfl) ?y7k13 (by assumption) ?r7k13
              case y7k13 => (intro w hSw; go_simp; all_goals with_reducible rfl)
              (try simp only [Act.put, List.setIfInBounds_toArray, List.set_cons_zero, List.set_cons_succ])
              refine take_want (i := 8) (v := ?v8k14) rfl (by kernel_rfl) (by kernel_rfl) (by kernel_rfl) (fun _ _ _ h => h) (by rfl) ?y8k14 (by assumption) ?r8k14
              case y8k14 => (intro w hSw; go_simp; all_goals with_reducible rfl)
              (try simp only [Act.put, List.setIfInBounds_toArray, List.set_cons_zero, List.set_cons_succ])
              refine wpAnyH_ready (rs := [9]) (by kernel_rfl) (by simp) ?_
              refine AllReadyH.cons rfl (fun K hK => ?_) AllReadyH.nil
              have o2 := d0.1
              have of2 := d0.2
              go_simp
              clear o2 of2 d0
              refine hK.out _ _ trivial (fun hHeld => ?_)
              clear hK K
              (try simp only [Act.put, List.setIfInBounds_toArray, List.set_cons_zero, List.set_cons_succ])
              refine wpAnyH_done (by kernel_rfl) ?_ _
              go_wp2_with fail
              go_roundw
              case rel => exact ⟨l + 1, J, b, A4, c4, _, by omega, by go_num, HV4, Lib.hid (HNX.out.le HI.out), Lib.hid (HXS.out.moreX HNL.out (by have := HML.out; omega) HNX.out)⟩
              case measure => simp [RowKit.intOf]; omega
            · go_simp
              (go_at_call 59; refine HTK.out.mono ?_; rintro e w2 ⟨x, J, b, hnx, rfl, h2, hf2⟩)
              have HNX := Lib.hid hnx
              have H2 := Lib.hid h2
              have HF2 := Lib.hid (show Fr (fun i => i = mb) wr.drew w2 from (Fr.of_grown hf2).mono (fun i _ hi => (Option.some.inj hi).symm))
              have HL2 := Lib.hid (HLF.out w2 HF2.out)
              clear h2 hf2 hnx
              refine hK.out _ _ trivial (fun hHeld => ?_)
              clear hK K
              (try simp only [Act.put, List.setIfInBounds_toArray, List.set_cons_zero, List.set_cons_succ])
              refine wpAnyH_ready (rs := [2, 5]) (by kernel_rfl) (by simp) ?_
              refine AllReadyH.cons rfl (fun K hK => ?_) (AllReadyH.cons rfl (fun K hK => ?_) AllReadyH.nil)
              · have o2 := HL2.out
                go_simp
                clear o2
                refine hK.out _ _ trivial (fun hHeld => ?_)
                clear hK K
                (try simp only [Act.put, List.setIfInBounds_toArray, List.set_cons_zero, List.set_cons_succ])
                refine wpAnyH_ready (rs := [5]) (by kernel_rfl) (by simp) ?_
                refine AllReadyH.cons rfl (fun K hK => ?_) AllReadyH.nil
                go_simp
                have HL3 := Lib.hid (show (w2.alloc (.cells #[.int .i64 x] 3)).cell? ⟨eb, 4, none⟩ = some (.slice F l y) from cell_on (bpush (Below.refl _ _) _) HL2.out)
                refine hK.out _ _ trivial (fun hHeld => ?_)
                clear hK K
                (try simp only [Act.put, List.setIfInBounds_toArray, List.set_cons_zero, List.set_cons_succ])
                refine wpAnyH_ready (rs := [6]) (by kernel_rfl) (by simp) ?_
                refine AllReadyH.cons rfl (fun K hK => ?_) AllReadyH.nil
                refine step_app1 _ _ 42 rfl w1.heap.size 3 i3 _ 8 Tryd.underlying42 hi3 hz3a hz3b hz3c rfl (.slice F l y) l (intsV X) (by first | rfl | (simp; done)) (HOW.out w2 HF2.out (u := .int .i64 x)).1 ⟨w2.heap.size, 0, none⟩ (.int .i64 x) (by first | rfl | (simp; done)) (cell_one_new _ _ _) rfl (by omega) (by omega) (HOW.out w2 HF2.out (u := .int .i64 x)).2 ?_
                intro v4 w4 ho4 hg4
                have HM4 := Lib.hid (HST.out.moreX H2.out (HFD.out.trans HF2.out) ho4 hg4)
                obtain ⟨A4, c4, hv4, hst4⟩ := HM4.out
                have HV4 := Lib.hid hst4
                have d0 := HBK.out w2 w4 HF2.out (u := .int .i64 x) hg4
                subst hv4
                clear ho4 hg4 hst4 HM4
                refine hK.out _ _ trivial (fun hHeld => ?_)
                clear hK K
                (try simp only [Act.put, List.setIfInBounds_toArray, List.set_cons_zero, List.set_cons_succ])
                refine take_want (i := 7) (v := ?v7k15) rfl (by kernel_rfl) (by kernel_rfl) (by kernel_rfl) (fun _ _ _ h => h) (by rfl) ?y7k15 (by assumption) ?r7k15
                case y7k15 => (intro w hSw; go_simp; all_goals with_reducible rfl)
                (try simp only [Act.put, List.setIfInBounds_toArray, List.set_cons_zero, List.set_cons_succ])
                refine take_want (i := 8) (v := ?v8k16) rfl (by kernel_rfl) (by kernel_rfl) (by kernel_rfl) (fun _ _ _ h => h) (by rfl) ?y8k16 (by assumption) ?r8k16
                case y8k16 => (intro w hSw; go_simp; all_goals with_reducible rfl)
                (try simp only [Act.put, List.setIfInBounds_toArray, List.set_cons_zero, List.set_cons_succ])
                refine wpAnyH_ready (rs := [9]) (by kernel_rfl) (by simp) ?_
                refine AllReadyH.cons rfl (fun K hK => ?_) AllReadyH.nil
                have o2 := d0.1
                have of2 := d0.2
                go_simp
                clear o2 of2 d0
                refine hK.out _ _ trivial (fun hHeld => ?_)
                clear hK K
                (try simp only [Act.put, List.setIfInBounds_toArray, List.set_cons_zero, List.set_cons_succ])
                refine wpAnyH_done (by kernel_rfl) ?_ _
                go_wp2_with fail
                go_roundw
                case rel => exact ⟨l + 1, J, b, A4, c4, _, by omega, by go_num, HV4, Lib.hid (HNX.out.le HI.out), Lib.hid (HXS.out.moreX HNL.out (by have := HML.out; omega) HNX.out)⟩
                case measure => simp [RowKit.intOf]; omega
              · go_simp
                have HL3 := Lib.hid (show (w2.alloc (.cells #[.int .i64 x] 3)).cell? ⟨eb, 4, none⟩ = some (.slice F l y) from cell_on (bpush (Below.refl _ _) _) HL2.out)
                refine hK.out _ _ trivial (fun hHeld => ?_)
                clear hK K
                (try simp only [Act.put, List.setIfInBounds_toArray, List.set_cons_zero, List.set_cons_succ])
                refine wpAnyH_ready (rs := [2]) (by kernel_rfl) (by simp) ?_
                refine AllReadyH.cons rfl (fun K hK => ?_) AllReadyH.nil
                have o2 := HL3.out
                go_simp
                clear o2
                refine hK.out _ _ trivial (fun hHeld => ?_)
                clear hK K
                (try simp only [Act.put, List.setIfInBounds_toArray, List.set_cons_zero, List.set_cons_succ])
                refine wpAnyH_ready (rs := [6]) (by kernel_rfl) (by simp) ?_
                refine AllReadyH.cons rfl (fun K hK => ?_) AllReadyH.nil
                refine step_app1 _ _ 42 rfl w1.heap.size 3 i3 _ 8 Tryd.underlying42 hi3 hz3a hz3b hz3c rfl (.slice F l y) l (intsV X) (by first | rfl | (simp; done)) (HOW.out w2 HF2.out (u := .int .i64 x)).1 ⟨w2.heap.size, 0, none⟩ (.int .i64 x) (by first | rfl | (simp; done)) (cell_one_new _ _ _) rfl (by omega) (by omega) (HOW.out w2 HF2.out (u := .int .i64 x)).2 ?_
                intro v4 w4 ho4 hg4
                have HM4 := Lib.hid (HST.out.moreX H2.out (HFD.out.trans HF2.out) ho4 hg4)
                obtain ⟨A4, c4, hv4, hst4⟩ := HM4.out
                have HV4 := Lib.hid hst4
                have d0 := HBK.out w2 w4 HF2.out (u := .int .i64 x) hg4
                subst hv4
                clear ho4 hg4 hst4 HM4
                refine hK.out _ _ trivial (fun hHeld => ?_)
                clear hK K
                (try simp only [Act.put, List.setIfInBounds_toArray, List.set_cons_zero, List.set_cons_succ])
                refine take_want (i := 7) (v := ?v7k17) rfl (by kernel_rfl) (by kernel_rfl) (by kernel_rfl) (fun _ _ _ h => h) (by rfl) ?y7k17 (by assumption) ?r7k17
                case y7k17 => (intro w hSw; go_simp; all_goals with_reducible rfl)
                (try simp only [Act.put, List.setIfInBounds_toArray, List.set_cons_zero, List.set_cons_succ])
                refine take_want (i := 8) (v := ?v8k18) rfl (by kernel_rfl) (by kernel_rfl) (by kernel_rfl) (fun _ _ _ h => h) (by rfl) ?y8k18 (by assumption) ?r8k18
                case y8k18 => (intro w hSw; go_simp; all_goals with_reducible rfl)
                (try simp only [Act.put, List.setIfInBounds_toArray, List.set_cons_zero, List.set_cons_succ])
                refine wpAnyH_ready (rs := [9]) (by kernel_rfl) (by simp) ?_
                refine AllReadyH.cons rfl (fun K hK => ?_) AllReadyH.nil
                have o2 := d0.1
                have of2 := d0.2
                go_simp
                clear o2 of2 d0
                refine hK.out _ _ trivial (fun hHeld => ?_)
                clear hK K
                (try simp only [Act.put, List.setIfInBounds_toArray, List.set_cons_zero, List.set_cons_succ])
                refine wpAnyH_done (by kernel_rfl) ?_ _
                go_wp2_with fail
                go_roundw
                case rel => exact ⟨l + 1, J, b, A4, c4, _, by omega, by go_num, HV4, Lib.hid (HNX.out.le HI.out), Lib.hid (HXS.out.moreX HNL.out (by have := HML.out; omega) HNX.out)⟩
                case measure => simp [RowKit.intOf]; omega
          · obtain rfl : l = m := by omega
            have hge : ¬ (l : Int) < (l : Int) := by omega
            go_upto_region 17 with fail
            clear c1 c2 hge hlt
            obtain ⟨wx, hwx⟩ : ∃ wx, wx = wr := ⟨_, rfl⟩
            rw [← hwx] at HST ⊢
            clear hwx
            obtain ⟨tk, htk⟩ : ∃ tk, tk = false := ⟨_, rfl⟩
            obtain ⟨nw, hnw⟩ : ∃ nw : Int, nw = 0 := ⟨_, rfl⟩
            obtain ⟨p, hp⟩ : ∃ p : Nat, p = k := ⟨_, rfl⟩
            obtain ⟨x, hx⟩ : ∃ x : Nat, x = l := ⟨_, rfl⟩
            have HFX := Lib.hid HST.out.fr
            have HFZ := Lib.hid (show FitZ L M bs tk nw t D X I bad from by rw [htk, hnw]; exact HXS.out.all HNL.out HML.out)
            have HKX := Lib.hid (show Blk wx eb 46 #[.bool tk, .int .i64 nw, .int .i64 t, .slice E p q, .slice F x y] from by
              rw [htk, hnw, hp, hx]; exact HST.out.blk)
            have HBXR := Lib.hid HST.out.bx
            have HZK := Lib.hid (show ∀ W, Fr (fun i => i = w.heap.size + 1) wx W → EvO W ⟨E, p, q, F, x, y, t, D, X⟩ from fun W hW => by
              have hz := HZ1.out
              have d2 := own_frJ HST.out.od hW (fun b hb e => by have := own_far HST.out.od hb; omega)
              have x2 := own_frJ HST.out.ox hW (fun b hb e => by have := own_far HST.out.ox hb; omega)
              rw [hp, hx]
              exact ⟨own_less d2 (Nat.zero_le _), own_less x2 (Nat.zero_le _), HSZ.out⟩)
            have HZX := Lib.hid (EvO.evg (HZK.out wx (Fr.refl _ _)))
            have HPX := Lib.hid (show p ≤ 1000 ∧ x ≤ 1000 by omega)
            have HRS0 := Lib.hid (HRES.out wx HFX.out)
            have HRS := Lib.hid HRS0.out.2
            obtain ⟨⟨a0, a1⟩, _⟩ := HRS0.out
            have HBW := Lib.hid (HBWW.out wx HFX.out)
            clear htk hnw hp hx HRS0
            have k0 : wx.cell? ⟨eb, 0, none⟩ = some (.bool tk) := by rw [HKX.out.cell 0]; rfl
            have k1 : wx.cell? ⟨eb, 1, none⟩ = some (.int .i64 nw) := by rw [HKX.out.cell 1]; rfl
            have k2 : wx.cell? ⟨eb, 2, none⟩ = some (.int .i64 t) := by rw [HKX.out.cell 2]; rfl
            have k3 : wx.cell? ⟨eb, 3, none⟩ = some (.slice E p q) := by rw [HKX.out.cell 3]; rfl
            have k4 : wx.cell? ⟨eb, 4, none⟩ = some (.slice F x y) := by rw [HKX.out.cell 4]; rfl
            have HEC := Lib.hid (refencode_any A B _ c _ d L M ⟨tk, nw, ⟨E, p, q, F, x, y, t, D, X⟩⟩ wx HZX.out HNL.out HML.out hn2 hm2 (by show p ≤ _; have := HPX.out; omega) (by show x ≤ _; have := HPX.out; omega))
            have HKF := Lib.hid (fun W (hb : Below wx.heap.size wx W) => show Bx W mb (.slice Ab nb cb) I bad ∧ Blk W eb 46 #[.bool tk, .int .i64 nw, .int .i64 t, .slice E p q, .slice F x y] ∧ Blk W (w.heap.size + 1) 46 #[.bool false, .int .i64 0, .int .i64 0, .slice none 0 0, .slice none 0 0] from ⟨HBXR.out.frs (S := fun _ => False) (Fr.of_below hb) (by have := HKX.out.lt; have := HORD.out; omega) (fun h => h), HKX.out.below hb HKX.out.lt, HRS.out.below hb HRS.out.lt⟩)
            obtain ⟨rw, hrw⟩ := bool_of (bad = false ∧ I = nb)
            have HRW := Lib.hid hrw
            clear hrw
            go_wp2_with fail
            refine HEC.out.mono ?_
            rintro e w9 hE9
            have hb9 : Below wx.heap.size wx w9 := by rcases hE9 with ⟨_, _, h⟩ | ⟨_, _, _, _, _, _, h⟩ <;> exact h
            obtain ⟨d1, d2, d3⟩ := HKF.out w9 hb9
            have HWH := Lib.hid (whole_any mb Ab nb cb I bad w9 d1 rw HRW.out)
            have HB9 := Lib.hid hb9
            clear d1 d2 d3 hb9 k0 k1 k2 k3 k4 a0 a1
            rcases hE9 with ⟨hnr, rfl, _⟩ | ⟨hrt, g, cap, rfl, hc9, ho9, _⟩
            · have HNO := Lib.hid (show ∀ z1, rightJ L M z1 → encJ z1 ≠ bs from fun z1 h1 h2 => hnr (by
                obtain ⟨_, _, g1, g2, g3, g4, g5⟩ := HFZ.out z1 h1 h2
                exact (SameJ.symm ⟨g1, g2, g3, g4, g5⟩).right h1))
              clear hnr
              go_wp2_with fail
              refine HWH.out.mono ?_
              rintro e w10 ⟨rfl, hk10⟩
              have hb10 : Below w9.heap.size w9 w10 := by obtain ⟨kk, rfl⟩ := hk10; exact below_drewN (Below.refl _ _) kk
              have HB10 := Lib.hid (bthen HBW.out (bthen HB9.out hb10))
              obtain ⟨d1, d2, d3⟩ := HKF.out w10 (bthen HB9.out hb10)
              have x0 := d3.cell 0
              have x1 := d3.cell 1
              have x2 := d3.cell 2
              have x3 := d3.cell 3
              have x4 := d3.cell 4
              simp at x0 x1 x2 x3 x4
              have f0 := d3.frozen 0
              have f1 := d3.frozen 1
              have f2 := d3.frozen 2
              have f3 := d3.frozen 3
              have f4 := d3.frozen 4
              have hGw := d3.lt
              clear d1 d2 d3 hk10 hb10
              cases rw with
              | false =>
                go_wp2_with fail
                refine bodyPost_ret (v := .tuple #[.agg #[.bool false, .int .i64 0, .int .i64 0, .slice none 0 0, .slice none 0 0], .int .i64 191]) (by simp [results, Tryd.results32, go_sem, x0, x1, x2, x3, x4]) rfl ?_
                exact .inr ⟨HNO.out, rfl, (((((HB10.out.setCell (p := ⟨w.heap.size + 1, 0, none⟩) (Nat.le_succ _) _).setCell (p := ⟨w.heap.size + 1, 1, none⟩) (Nat.le_succ _) _).setCell (p := ⟨w.heap.size + 1, 2, none⟩) (Nat.le_succ _) _).setCell (p := ⟨w.heap.size + 1, 3, none⟩) (Nat.le_succ _) _).setCell (p := ⟨w.heap.size + 1, 4, none⟩) (Nat.le_succ _) _)⟩
              | true =>
                go_wp2_with fail
                refine bodyPost_ret (v := .tuple #[.agg #[.bool false, .int .i64 0, .int .i64 0, .slice none 0 0, .slice none 0 0], .int .i64 191]) (by simp [results, Tryd.results32, go_sem, x0, x1, x2, x3, x4]) rfl ?_
                exact .inr ⟨HNO.out, rfl, (((((HB10.out.setCell (p := ⟨w.heap.size + 1, 0, none⟩) (Nat.le_succ _) _).setCell (p := ⟨w.heap.size + 1, 1, none⟩) (Nat.le_succ _) _).setCell (p := ⟨w.heap.size + 1, 2, none⟩) (Nat.le_succ _) _).setCell (p := ⟨w.heap.size + 1, 3, none⟩) (Nat.le_succ _) _).setCell (p := ⟨w.heap.size + 1, 4, none⟩) (Nat.le_succ _) _)⟩
            · have HRT := Lib.hid hrt
              obtain ⟨Y, hY⟩ : ∃ Y, Y = encJ ⟨tk, nw, ⟨E, p, q, F, x, y, t, D, X⟩⟩ := ⟨_, rfl⟩
              rw [← hY] at hc9 ho9 ⊢
              obtain ⟨ly, hly⟩ : ∃ ly, ly = Y.length := ⟨_, rfl⟩
              rw [← hly] at hc9 ho9 ⊢
              have HRY := Lib.hid (row_own ho9)
              have HY := Lib.hid hY
              have HLY := Lib.hid hly
              clear hrt hY hly ho9
              go_wp2_with fail
              refine HWH.out.mono ?_
              rintro e w10 ⟨rfl, hk10⟩
              have hb10 : Below w9.heap.size w9 w10 := by obtain ⟨kk, rfl⟩ := hk10; exact below_drewN (Below.refl _ _) kk
              have HB10 := Lib.hid (bthen HBW.out (bthen HB9.out hb10))
              obtain ⟨d1, d2, d3⟩ := HKF.out w10 (bthen HB9.out hb10)
              have x0 := d3.cell 0
              have x1 := d3.cell 1
              have x2 := d3.cell 2
              have x3 := d3.cell 3
              have x4 := d3.cell 4
              simp at x0 x1 x2 x3 x4
              have f0 := d3.frozen 0
              have f1 := d3.frozen 1
              have f2 := d3.frozen 2
              have f3 := d3.frozen 3
              have f4 := d3.frozen 4
              have hGw := d3.lt
              have HF10 := Lib.hid (show Fr (fun i => i = w.heap.size + 1) wx w10 from Fr.of_below (bthen HB9.out hb10))
              have HK10 := Lib.hid d2
              obtain ⟨s1, hs1⟩ : ∃ s1, s1 = strOfNums Y := ⟨_, rfl⟩
              obtain ⟨s2, hs2⟩ : ∃ s2, s2 = strOfNums bs := ⟨_, rfl⟩
              have hcv1 : Sem.run Tryd.prog (convert 25 9 (.slice (some ⟨g, 0, none⟩) ly cap)) w10 = .ok (.string s1) w10 := by rw [hs1]; exact conv_any (HRY.out.keep (Nat.le_refl _) hb10) HLY.out
              have hcv2 : Sem.run Tryd.prog (convert 25 9 (.slice Ab nb cb)) w10 = .ok (.string s2) w10 := by rw [hs2]; exact conv_any (HROW.out.keep (Nat.le_refl _) HB10.out) HNB.out
              have HS1 := Lib.hid hs1
              have HS2 := Lib.hid hs2
              clear d1 d2 d3 hk10 hb10 hs1 hs2
              cases rw with
              | false =>
                have HNO := Lib.hid (show ∀ z1, rightJ L M z1 → encJ z1 ≠ bs from fun z1 h1 h2 => by
                  obtain ⟨g1, g2, _⟩ := HFZ.out z1 h1 h2
                  have h3 : I = nb := by
                    have h4 := congrArg List.length g2
                    rw [List.length_drop, List.length_nil] at h4
                    have h5 := HI.out
                    have h6 := HNB.out
                    omega
                  have := HRW.out.2 ⟨g1, h3⟩
                  cases this)
                clear hcv1 hcv2
                go_wp2_with fail
                refine bodyPost_ret (v := .tuple #[.agg #[.bool false, .int .i64 0, .int .i64 0, .slice none 0 0, .slice none 0 0], .int .i64 191]) (by simp [results, Tryd.results32, go_sem, x0, x1, x2, x3, x4]) rfl ?_
                exact .inr ⟨HNO.out, rfl, (((((HB10.out.setCell (p := ⟨w.heap.size + 1, 0, none⟩) (Nat.le_succ _) _).setCell (p := ⟨w.heap.size + 1, 1, none⟩) (Nat.le_succ _) _).setCell (p := ⟨w.heap.size + 1, 2, none⟩) (Nat.le_succ _) _).setCell (p := ⟨w.heap.size + 1, 3, none⟩) (Nat.le_succ _) _).setCell (p := ⟨w.heap.size + 1, 4, none⟩) (Nat.le_succ _) _)⟩
              | true =>
                by_cases heq : Y = bs
                · have eqt : (s1.toList == s2.toList) = true := by rw [HS1.out, HS2.out, heq]; simp
                  have HEQ := Lib.hid heq
                  have k0 : w10.cell? ⟨eb, 0, none⟩ = some (.bool tk) := by rw [HK10.out.cell 0]; rfl
                  have k1 : w10.cell? ⟨eb, 1, none⟩ = some (.int .i64 nw) := by rw [HK10.out.cell 1]; rfl
                  have k2 : w10.cell? ⟨eb, 2, none⟩ = some (.int .i64 t) := by rw [HK10.out.cell 2]; rfl
                  have k3 : w10.cell? ⟨eb, 3, none⟩ = some (.slice E p q) := by rw [HK10.out.cell 3]; rfl
                  have k4 : w10.cell? ⟨eb, 4, none⟩ = some (.slice F x y) := by rw [HK10.out.cell 4]; rfl
                  clear heq
                  go_wp2_with fail
                  refine bodyPost_ret (v := .tuple #[.agg #[.bool tk, .int .i64 nw, .int .i64 t, .slice E p q, .slice F x y], .int .i64 0]) (by simp [results, Tryd.results32, go_sem, x0, x1, x2, x3, x4]) rfl ?_
                  exact .inl ⟨⟨tk, nw, ⟨E, p, q, F, x, y, t, D, X⟩⟩, HRT.out, by rw [← HY.out, HEQ.out], HZK.out _ (((((HF10.out.set_ (.inl (show w.heap.size + 1 = w.heap.size + 1 from rfl)) _).set_ (.inl (show w.heap.size + 1 = w.heap.size + 1 from rfl)) _).set_ (.inl (show w.heap.size + 1 = w.heap.size + 1 from rfl)) _).set_ (.inl (show w.heap.size + 1 = w.heap.size + 1 from rfl)) _).set_ (.inl (show w.heap.size + 1 = w.heap.size + 1 from rfl)) _), rfl, (((((HB10.out.setCell (p := ⟨w.heap.size + 1, 0, none⟩) (Nat.le_succ _) _).setCell (p := ⟨w.heap.size + 1, 1, none⟩) (Nat.le_succ _) _).setCell (p := ⟨w.heap.size + 1, 2, none⟩) (Nat.le_succ _) _).setCell (p := ⟨w.heap.size + 1, 3, none⟩) (Nat.le_succ _) _).setCell (p := ⟨w.heap.size + 1, 4, none⟩) (Nat.le_succ _) _)⟩
                · have HNO := Lib.hid (show ∀ z1, rightJ L M z1 → encJ z1 ≠ bs from fun z1 h1 h2 => heq (by
                    obtain ⟨_, _, g1, g2, g3, g4, g5⟩ := HFZ.out z1 h1 h2
                    rw [HY.out, ← h2]
                    exact (SameJ.mk g1 g2 g3 g4 g5).enc))
                  have eqf : (s1.toList == s2.toList) = false := by
                    rw [beq_eq_false_iff_ne]
                    intro h
                    rw [ByteArray.toList_eq, ByteArray.toList_eq] at h
                    exact heq (strOf_inj (by rw [HY.out]; exact encJ_bytes _) HBY.out (by rw [← HS1.out, ← HS2.out]; exact ByteArray.ext (Array.toList_inj.1 h)))
                  clear heq
                  go_wp2_with fail
                  refine bodyPost_ret (v := .tuple #[.agg #[.bool false, .int .i64 0, .int .i64 0, .slice none 0 0, .slice none 0 0], .int .i64 191]) (by simp [results, Tryd.results32, go_sem, x0, x1, x2, x3, x4]) rfl ?_
                  exact .inr ⟨HNO.out, rfl, (((((HB10.out.setCell (p := ⟨w.heap.size + 1, 0, none⟩) (Nat.le_succ _) _).setCell (p := ⟨w.heap.size + 1, 1, none⟩) (Nat.le_succ _) _).setCell (p := ⟨w.heap.size + 1, 2, none⟩) (Nat.le_succ _) _).setCell (p := ⟨w.heap.size + 1, 3, none⟩) (Nat.le_succ _) _).setCell (p := ⟨w.heap.size + 1, 4, none⟩) (Nat.le_succ _) _)⟩
end Go.Proofs.YthogafecplhckaaDoor
