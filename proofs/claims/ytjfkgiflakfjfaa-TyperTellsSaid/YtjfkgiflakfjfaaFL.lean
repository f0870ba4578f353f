/- ContainsFunc over filters, terms and havings, whatever closure. -/
import Derived.Test.YtjfkgiflakfjfaaFK
import Derived.Shelf.Abstract
namespace Go.Proofs.Ytjfkgiflakfjfaa
open Go.RowKit Go.Maps Go.Lib Go.Shelf
set_option linter.unusedSimpArgs false
set_option linter.unusedVariables false
def AnyPost (w : World) (r : Bool) (e : Ending) (w' : World) : Prop := (∃ v : Int, e = .returned (.int .i64 v) ∧ (r = true → 0 ≤ v) ∧ (r = false → v = -1)) ∧ Below w.heap.size w w'
set_option maxRecDepth 100000 in
set_option maxHeartbeats 4000000 in
theorem idxF_any (A : Option Addr) (n c g : Nat) (lb : Array Value) (st : FT → Bool) (L : List (FT)) (w : World) (hA : Row w A (cellsK L)) (hz : n = L.length) (hn : n ≤ 9223372036854775807)
    (eg : ∀ args w, (callFunc g args).run Try.prog w = .ok (.enter g args) w)
    (hg : ∀ W, Below w.heap.size w W → ∀ x ∈ L, Calls Try.prog g (#[.agg #[.int .i64 x.op, .string x.dim, .string x.val, .slice x.A x.n x.c]] ++ lb) W fun e W' => e = .returned (.bool (st x)) ∧ Below W.heap.size W W') :
    Calls Try.prog 66 #[.slice A n c, .func (.func g) #[] lb] w (AnyPost w (L.any st)) := by
  have HA := Lib.hid hA
  have HZ := Lib.hid hz
  obtain ⟨r, hr⟩ : ∃ r, r = L.any st := ⟨_, rfl⟩
  have HR := Lib.hid (show r = true ↔ ∃ s ∈ L, st s = true by rw [hr]; simp)
  have HG := Lib.hid hg
  rw [← hr]
  clear hA hz hr hg
  go_enter Try.func66, Try.ntmps66
  go_wp2_with fail
  go_loopw [8] (fun i wr => ∃ k : Nat, k ≤ n ∧ i = .int .i64 k ∧ Hid (∀ (j : Nat) (h : j < L.length), j < k → st L[j] = false) ∧ Hid (Below w.heap.size w wr)) (fun i _ => n - (intOf i).toNat)
  case atStart => exact ⟨0, Nat.zero_le _, rfl, Lib.hid (fun j _ h => by omega), Lib.hid (Below.refl _ _)⟩
  case round =>
    obtain ⟨k, hk, rfl, HK, HB⟩ := hrel
    by_cases hlt : k < n
    · have hkz : k < L.length := by have := HZ.out; omega
      have hki : (k : Int) < (n : Int) := by omega
      have hk0 : (0 : Int) ≤ (k : Int) := by omega
      obtain ⟨b, off, hAe, q0, q1, q2, q3⟩ := kid_cells (HA.out.keep (Nat.le_refl _) HB.out) hkz
      obtain ⟨x, hx⟩ : ∃ x, x = L[k] := ⟨_, rfl⟩
      rw [← hx] at q0 q1 q2 q3
      have HX := Lib.hid hx
      have hxm : x ∈ L := by rw [hx]; exact List.getElem_mem _
      obtain ⟨q, hq⟩ : ∃ q : Bool, q = st x := ⟨_, rfl⟩
      have HC := Lib.hid (HG.out wr HB.out x hxm)
      rw [← hq] at HC
      have HQ := Lib.hid hq
      have HM := Lib.hid hxm
      clear hq hx hxm
      subst hAe
      cases q with
      | true =>
        have HT := Lib.hid (show r = true from HR.out.2 ⟨x, HM.out, HQ.out.symm⟩)
        clear hlt
        go_wp2_with (go_at_fn g; refine HC.out.mono ?_; rintro e w1 ⟨rfl, hB1⟩; have HB1 := Lib.hid (bthen HB.out hB1); clear hB1)
        go_ret
        exact ⟨⟨k, rfl, fun _ => (by omega), fun h => (by rw [HT.out] at h; cases h)⟩, HB1.out⟩
      | false =>
        have HK2 := Lib.hid (show ∀ (j : Nat) (h : j < L.length), j < k + 1 → st L[j] = false from fun j h hj => by
          rcases Nat.lt_or_ge j k with e | e
          · exact HK.out j h e
          · obtain rfl : j = k := by omega
            rw [← HX.out]; exact HQ.out.symm)
        clear hlt
        go_wp2_with (go_at_fn g; refine HC.out.mono ?_; rintro e w1 ⟨rfl, hB1⟩; have HB1 := Lib.hid (bthen HB.out hB1); clear hB1)
        go_roundw
        case rel => exact ⟨k + 1, by omega, by go_num, HK2, HB1⟩
        case measure => simp [intOf]; omega
    · have hge : ¬ (k : Int) < (n : Int) := by omega
      have HT := Lib.hid (show r = false by
        cases r with
        | false => rfl
        | true =>
          obtain ⟨s, hs, hn⟩ := HR.out.1 rfl
          obtain ⟨j, hj, rfl⟩ := List.mem_iff_getElem.1 hs
          have h2 := HK.out j hj (by have := HZ.out; omega)
          rw [hn] at h2; cases h2)
      clear hlt
      go_wp2_with fail
      go_ret
      exact ⟨⟨-1, rfl, fun h => (by rw [HT.out] at h; cases h), fun _ => rfl⟩, HB.out⟩
set_option maxRecDepth 100000 in
set_option maxHeartbeats 1000000 in
theorem hasF_any (A : Option Addr) (n c g : Nat) (lb : Array Value) (st : FT → Bool) (L : List (FT)) (w : World) (hA : Row w A (cellsK L)) (hz : n = L.length) (hn : n ≤ 9223372036854775807)
    (eg : ∀ args w, (callFunc g args).run Try.prog w = .ok (.enter g args) w)
    (hg : ∀ W, Below w.heap.size w W → ∀ x ∈ L, Calls Try.prog g (#[.agg #[.int .i64 x.op, .string x.dim, .string x.val, .slice x.A x.n x.c]] ++ lb) W fun e W' => e = .returned (.bool (st x)) ∧ Below W.heap.size W W') :
    Calls Try.prog 61 #[.slice A n c, .func (.func g) #[] lb] w fun e w' => e = .returned (.bool (L.any st)) ∧ Below w.heap.size w w' := by
  have HC := Lib.hid (idxF_any A n c g lb st L w hA hz hn eg hg)
  obtain ⟨r, hr⟩ : ∃ r, r = L.any st := ⟨_, rfl⟩
  rw [← hr] at HC ⊢
  clear hr hA hz hg
  go_enter Try.func61, Try.ntmps61
  cases r with
  | true =>
    go_wp2_with (go_at_call 66; refine HC.out.mono ?_; rintro e w1 ⟨⟨v, rfl, hv, -⟩, hB1⟩; have HB1 := Lib.hid hB1; have hv0 := hv rfl; clear hB1 hv)
    go_ret
    exact ⟨rfl, HB1.out⟩
  | false =>
    go_wp2_with (go_at_call 66; refine HC.out.mono ?_; rintro e w1 ⟨⟨v, rfl, -, hv⟩, hB1⟩; have HB1 := Lib.hid hB1; obtain rfl := hv rfl; clear hB1)
    go_ret
    exact ⟨rfl, HB1.out⟩
set_option maxRecDepth 100000 in
set_option maxHeartbeats 4000000 in
theorem idxT_any (A : Option Addr) (n c g : Nat) (lb : Array Value) (st : Int × ByteArray → Bool) (L : List (Int × ByteArray)) (w : World) (hA : Row w A (cellsTm L)) (hz : n = L.length) (hn : n ≤ 9223372036854775807)
    (eg : ∀ args w, (callFunc g args).run Try.prog w = .ok (.enter g args) w)
    (hg : ∀ W, Below w.heap.size w W → ∀ x ∈ L, Calls Try.prog g (#[.agg #[.int .i64 x.1, .string x.2]] ++ lb) W fun e W' => e = .returned (.bool (st x)) ∧ Below W.heap.size W W') :
    Calls Try.prog 56 #[.slice A n c, .func (.func g) #[] lb] w (AnyPost w (L.any st)) := by
  have HA := Lib.hid hA
  have HZ := Lib.hid hz
  obtain ⟨r, hr⟩ : ∃ r, r = L.any st := ⟨_, rfl⟩
  have HR := Lib.hid (show r = true ↔ ∃ s ∈ L, st s = true by rw [hr]; simp)
  have HG := Lib.hid hg
  rw [← hr]
  clear hA hz hr hg
  go_enter Try.func56, Try.ntmps56
  go_wp2_with fail
  go_loopw [8] (fun i wr => ∃ k : Nat, k ≤ n ∧ i = .int .i64 k ∧ Hid (∀ (j : Nat) (h : j < L.length), j < k → st L[j] = false) ∧ Hid (Below w.heap.size w wr)) (fun i _ => n - (intOf i).toNat)
  case atStart => exact ⟨0, Nat.zero_le _, rfl, Lib.hid (fun j _ h => by omega), Lib.hid (Below.refl _ _)⟩
  case round =>
    obtain ⟨k, hk, rfl, HK, HB⟩ := hrel
    by_cases hlt : k < n
    · have hkz : k < L.length := by have := HZ.out; omega
      have hki : (k : Int) < (n : Int) := by omega
      have hk0 : (0 : Int) ≤ (k : Int) := by omega
      obtain ⟨b, off, hAe, q0, q1⟩ := term_cells (HA.out.keep (Nat.le_refl _) HB.out) hkz
      obtain ⟨x, hx⟩ : ∃ x, x = L[k] := ⟨_, rfl⟩
      rw [← hx] at q0 q1
      have HX := Lib.hid hx
      have hxm : x ∈ L := by rw [hx]; exact List.getElem_mem _
      obtain ⟨q, hq⟩ : ∃ q : Bool, q = st x := ⟨_, rfl⟩
      have HC := Lib.hid (HG.out wr HB.out x hxm)
      rw [← hq] at HC
      have HQ := Lib.hid hq
      have HM := Lib.hid hxm
      clear hq hx hxm
      subst hAe
      cases q with
      | true =>
        have HT := Lib.hid (show r = true from HR.out.2 ⟨x, HM.out, HQ.out.symm⟩)
        clear hlt
        go_wp2_with (go_at_fn g; refine HC.out.mono ?_; rintro e w1 ⟨rfl, hB1⟩; have HB1 := Lib.hid (bthen HB.out hB1); clear hB1)
        go_ret
        exact ⟨⟨k, rfl, fun _ => (by omega), fun h => (by rw [HT.out] at h; cases h)⟩, HB1.out⟩
      | false =>
        have HK2 := Lib.hid (show ∀ (j : Nat) (h : j < L.length), j < k + 1 → st L[j] = false from fun j h hj => by
          rcases Nat.lt_or_ge j k with e | e
          · exact HK.out j h e
          · obtain rfl : j = k := by omega
            rw [← HX.out]; exact HQ.out.symm)
        clear hlt
        go_wp2_with (go_at_fn g; refine HC.out.mono ?_; rintro e w1 ⟨rfl, hB1⟩; have HB1 := Lib.hid (bthen HB.out hB1); clear hB1)
        go_roundw
        case rel => exact ⟨k + 1, by omega, by go_num, HK2, HB1⟩
        case measure => simp [intOf]; omega
    · have hge : ¬ (k : Int) < (n : Int) := by omega
      have HT := Lib.hid (show r = false by
        cases r with
        | false => rfl
        | true =>
          obtain ⟨s, hs, hn⟩ := HR.out.1 rfl
          obtain ⟨j, hj, rfl⟩ := List.mem_iff_getElem.1 hs
          have h2 := HK.out j hj (by have := HZ.out; omega)
          rw [hn] at h2; cases h2)
      clear hlt
      go_wp2_with fail
      go_ret
      exact ⟨⟨-1, rfl, fun h => (by rw [HT.out] at h; cases h), fun _ => rfl⟩, HB.out⟩
set_option maxRecDepth 100000 in
set_option maxHeartbeats 1000000 in
theorem hasT_any (A : Option Addr) (n c g : Nat) (lb : Array Value) (st : Int × ByteArray → Bool) (L : List (Int × ByteArray)) (w : World) (hA : Row w A (cellsTm L)) (hz : n = L.length) (hn : n ≤ 9223372036854775807)
    (eg : ∀ args w, (callFunc g args).run Try.prog w = .ok (.enter g args) w)
    (hg : ∀ W, Below w.heap.size w W → ∀ x ∈ L, Calls Try.prog g (#[.agg #[.int .i64 x.1, .string x.2]] ++ lb) W fun e W' => e = .returned (.bool (st x)) ∧ Below W.heap.size W W') :
    Calls Try.prog 35 #[.slice A n c, .func (.func g) #[] lb] w fun e w' => e = .returned (.bool (L.any st)) ∧ Below w.heap.size w w' := by
  have HC := Lib.hid (idxT_any A n c g lb st L w hA hz hn eg hg)
  obtain ⟨r, hr⟩ : ∃ r, r = L.any st := ⟨_, rfl⟩
  rw [← hr] at HC ⊢
  clear hr hA hz hg
  go_enter Try.func35, Try.ntmps35
  cases r with
  | true =>
    go_wp2_with (go_at_call 56; refine HC.out.mono ?_; rintro e w1 ⟨⟨v, rfl, hv, -⟩, hB1⟩; have HB1 := Lib.hid hB1; have hv0 := hv rfl; clear hB1 hv)
    go_ret
    exact ⟨rfl, HB1.out⟩
  | false =>
    go_wp2_with (go_at_call 56; refine HC.out.mono ?_; rintro e w1 ⟨⟨v, rfl, -, hv⟩, hB1⟩; have HB1 := Lib.hid hB1; obtain rfl := hv rfl; clear hB1)
    go_ret
    exact ⟨rfl, HB1.out⟩
set_option maxRecDepth 100000 in
set_option maxHeartbeats 4000000 in
theorem idxH_any (A : Option Addr) (n c g : Nat) (lb : Array Value) (st : Int × ByteArray × Int × Int → Bool) (L : List (Int × ByteArray × Int × Int)) (w : World) (hA : Row w A (cellsHv L)) (hz : n = L.length) (hn : n ≤ 9223372036854775807)
    (eg : ∀ args w, (callFunc g args).run Try.prog w = .ok (.enter g args) w)
    (hg : ∀ W, Below w.heap.size w W → ∀ x ∈ L, Calls Try.prog g (#[.agg #[.int .i64 x.1, .string x.2.1, .int .i64 x.2.2.1, .int .i64 x.2.2.2]] ++ lb) W fun e W' => e = .returned (.bool (st x)) ∧ Below W.heap.size W W') :
    Calls Try.prog 57 #[.slice A n c, .func (.func g) #[] lb] w (AnyPost w (L.any st)) := by
  have HA := Lib.hid hA
  have HZ := Lib.hid hz
  obtain ⟨r, hr⟩ : ∃ r, r = L.any st := ⟨_, rfl⟩
  have HR := Lib.hid (show r = true ↔ ∃ s ∈ L, st s = true by rw [hr]; simp)
  have HG := Lib.hid hg
  rw [← hr]
  clear hA hz hr hg
  go_enter Try.func57, Try.ntmps57
  go_wp2_with fail
  go_loopw [8] (fun i wr => ∃ k : Nat, k ≤ n ∧ i = .int .i64 k ∧ Hid (∀ (j : Nat) (h : j < L.length), j < k → st L[j] = false) ∧ Hid (Below w.heap.size w wr)) (fun i _ => n - (intOf i).toNat)
  case atStart => exact ⟨0, Nat.zero_le _, rfl, Lib.hid (fun j _ h => by omega), Lib.hid (Below.refl _ _)⟩
  case round =>
    obtain ⟨k, hk, rfl, HK, HB⟩ := hrel
    by_cases hlt : k < n
    · have hkz : k < L.length := by have := HZ.out; omega
      have hki : (k : Int) < (n : Int) := by omega
      have hk0 : (0 : Int) ≤ (k : Int) := by omega
      obtain ⟨b, off, hAe, q0, q1, q2, q3⟩ := having_cells (HA.out.keep (Nat.le_refl _) HB.out) hkz
      obtain ⟨x, hx⟩ : ∃ x, x = L[k] := ⟨_, rfl⟩
      rw [← hx] at q0 q1 q2 q3
      have HX := Lib.hid hx
      have hxm : x ∈ L := by rw [hx]; exact List.getElem_mem _
      obtain ⟨q, hq⟩ : ∃ q : Bool, q = st x := ⟨_, rfl⟩
      have HC := Lib.hid (HG.out wr HB.out x hxm)
      rw [← hq] at HC
      have HQ := Lib.hid hq
      have HM := Lib.hid hxm
      clear hq hx hxm
      subst hAe
      cases q with
      | true =>
        have HT := Lib.hid (show r = true from HR.out.2 ⟨x, HM.out, HQ.out.symm⟩)
        clear hlt
        go_wp2_with (go_at_fn g; refine HC.out.mono ?_; rintro e w1 ⟨rfl, hB1⟩; have HB1 := Lib.hid (bthen HB.out hB1); clear hB1)
        go_ret
        exact ⟨⟨k, rfl, fun _ => (by omega), fun h => (by rw [HT.out] at h; cases h)⟩, HB1.out⟩
      | false =>
        have HK2 := Lib.hid (show ∀ (j : Nat) (h : j < L.length), j < k + 1 → st L[j] = false from fun j h hj => by
          rcases Nat.lt_or_ge j k with e | e
          · exact HK.out j h e
          · obtain rfl : j = k := by omega
            rw [← HX.out]; exact HQ.out.symm)
        clear hlt
        go_wp2_with (go_at_fn g; refine HC.out.mono ?_; rintro e w1 ⟨rfl, hB1⟩; have HB1 := Lib.hid (bthen HB.out hB1); clear hB1)
        go_roundw
        case rel => exact ⟨k + 1, by omega, by go_num, HK2, HB1⟩
        case measure => simp [intOf]; omega
    · have hge : ¬ (k : Int) < (n : Int) := by omega
      have HT := Lib.hid (show r = false by
        cases r with
        | false => rfl
        | true =>
          obtain ⟨s, hs, hn⟩ := HR.out.1 rfl
          obtain ⟨j, hj, rfl⟩ := List.mem_iff_getElem.1 hs
          have h2 := HK.out j hj (by have := HZ.out; omega)
          rw [hn] at h2; cases h2)
      clear hlt
      go_wp2_with fail
      go_ret
      exact ⟨⟨-1, rfl, fun h => (by rw [HT.out] at h; cases h), fun _ => rfl⟩, HB.out⟩
set_option maxRecDepth 100000 in
set_option maxHeartbeats 1000000 in
theorem hasH_any (A : Option Addr) (n c g : Nat) (lb : Array Value) (st : Int × ByteArray × Int × Int → Bool) (L : List (Int × ByteArray × Int × Int)) (w : World) (hA : Row w A (cellsHv L)) (hz : n = L.length) (hn : n ≤ 9223372036854775807)
    (eg : ∀ args w, (callFunc g args).run Try.prog w = .ok (.enter g args) w)
    (hg : ∀ W, Below w.heap.size w W → ∀ x ∈ L, Calls Try.prog g (#[.agg #[.int .i64 x.1, .string x.2.1, .int .i64 x.2.2.1, .int .i64 x.2.2.2]] ++ lb) W fun e W' => e = .returned (.bool (st x)) ∧ Below W.heap.size W W') :
    Calls Try.prog 36 #[.slice A n c, .func (.func g) #[] lb] w fun e w' => e = .returned (.bool (L.any st)) ∧ Below w.heap.size w w' := by
  have HC := Lib.hid (idxH_any A n c g lb st L w hA hz hn eg hg)
  obtain ⟨r, hr⟩ : ∃ r, r = L.any st := ⟨_, rfl⟩
  rw [← hr] at HC ⊢
  clear hr hA hz hg
  go_enter Try.func36, Try.ntmps36
  cases r with
  | true =>
    go_wp2_with (go_at_call 57; refine HC.out.mono ?_; rintro e w1 ⟨⟨v, rfl, hv, -⟩, hB1⟩; have HB1 := Lib.hid hB1; have hv0 := hv rfl; clear hB1 hv)
    go_ret
    exact ⟨rfl, HB1.out⟩
  | false =>
    go_wp2_with (go_at_call 57; refine HC.out.mono ?_; rintro e w1 ⟨⟨v, rfl, -, hv⟩, hB1⟩; have HB1 := Lib.hid hB1; obtain rfl := hv rfl; clear hB1)
    go_ret
    exact ⟨rfl, HB1.out⟩
end Go.Proofs.Ytjfkgiflakfjfaa
