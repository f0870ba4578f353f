/- Decode (20). -/
import Derived.Test.YthogafecplhckaaDoorNE
import Derived.Test.YthogafecplhckaaDoorVS
import Derived.Test.YthogafecplhckaaDoorTU
namespace Go.Proofs.YthogafecplhckaaDoor
open Go.RowKit Go.Lib
set_option linter.unusedSimpArgs false
set_option linter.unusedVariables false
theorem bytes_in {w : World} {A : Option Addr} {xs : List Int} (h : Row w A (xs.map (Value.int .u8))) : Lib.BytesIn w A xs.length xs := by
  intro h0
  rcases h with h | ⟨b, off, rfl, hc⟩
  · have : xs = [] := List.map_eq_nil_iff.1 h
    subst this; simp at h0
  · refine ⟨b, off, rfl, fun i hi => hc i _ ?_⟩
    rw [List.getElem?_map, List.getElem?_eq_getElem hi]
    simp [List.getD_eq_getElem?_getD, List.getElem?_eq_getElem hi]
theorem bytesOf_inj : ∀ {xs ys : List Int}, bytes xs → bytes ys → Lib.bytesOf xs = Lib.bytesOf ys → xs = ys := by
  intro xs
  induction xs with
  | nil => intro ys _ _ h; cases ys with
    | nil => rfl
    | cons y ys => simp [Lib.bytesOf] at h
  | cons x xs ih =>
    intro ys hx hy h
    cases ys with
    | nil => simp [Lib.bytesOf] at h
    | cons y ys =>
      simp only [Lib.bytesOf, List.map_cons, List.cons.injEq] at h
      have h1 := hx x (List.mem_cons_self ..)
      have h2 := hy y (List.mem_cons_self ..)
      have h3 := congrArg UInt8.toNat h.1
      simp only [UInt8.toNat_ofNat'] at h3
      rw [ih (fun a ha => hx a (List.mem_cons_of_mem _ ha)) (fun a ha => hy a (List.mem_cons_of_mem _ ha)) h.2]
      congr 1
      omega
theorem bytes_flatT (D : List ByteArray) : bytes (D.map encT).flatten := by
  intro x hx
  obtain ⟨l, hl, hx⟩ := List.mem_flatten.1 hx
  obtain ⟨s, _, rfl⟩ := List.mem_map.1 hl
  exact bytes_app' (encV_bytes' _) (sB_bytes s) x hx
theorem bytes_flatV (X : List Int) : bytes (X.map encV).flatten := by
  intro x hx
  obtain ⟨l, hl, hx⟩ := List.mem_flatten.1 hx
  obtain ⟨s, _, rfl⟩ := List.mem_map.1 hl
  exact encV_bytes' _ x hx
theorem encJ_bytes (z : EZ) : bytes (encJ z) := by
  unfold encJ
  split
  · exact bytes_app' (encV_bytes' _) (encV_bytes' _)
  · exact bytes_app' (bytes_app' (bytes_app' (encV_bytes' _) (encV_bytes' _)) (bytes_flatT _)) (bytes_flatV _)
/-- An event whose rows are own ones. -/
structure EvO (w : World) (z : EV) : Prop where
  od : w.ownsRow 0 9 1 (.slice z.E z.p z.q) z.p (texts z.D)
  ox : w.ownsRow 0 3 1 (.slice z.F z.x z.y) z.x (intsV z.X)
  sd : ∀ s ∈ z.D, s.size ≤ 24
theorem EvO.keep {w w' : World} {z : EV} (h : EvO w z) (hb : Below w.heap.size w w') : EvO w' z := ⟨own_below h.od hb, own_below h.ox hb, h.sd⟩
theorem EvO.grown {w w' : World} {z : EV} {B e size n : Nat} {v : Value} {xs : List Value} (h : EvO w z) (hv : w.ownsRow B e size v n xs) (he : 9 ≠ e ∧ 3 ≠ e) (hg : w.grownBy w' v.ownBlock) : EvO w' z := by
  refine ⟨h.od.kept hg ?_, h.ox.kept hg ?_, h.sd⟩
  · exact own_not_own h.od hv he.1
  · exact own_not_own h.ox hv he.2
theorem EvO.evg {w : World} {z : EV} (h : EvO w z) : EvG w z := by
  obtain ⟨_, _, e1, r1, r2, r3⟩ := own_slice h.od
  cases e1
  obtain ⟨_, _, e2, r4, r5, r6⟩ := own_slice h.ox
  cases e2
  have h1 := h.od.1
  have h2 := h.ox.1
  simp [texts] at h1
  simp [intsV] at h2
  exact ⟨r1, h1.symm, r2, r3, r4, h2.symm, fun s hs => by have := h.sd s hs; omega⟩
def DecPost (w : World) (L M : List ByteArray) (bs : List Int) (e : Ending) (w' : World) : Prop :=
  (∃ z : EZ, rightJ L M z ∧ encJ z = bs ∧ EvO w' z.ev ∧ e = .returned (.tuple #[z.arg, .int .i64 0]) ∧ Below w.heap.size w w') ∨
  ((∀ z, rightJ L M z → encJ z ≠ bs) ∧ e = .returned (.tuple #[.agg #[.bool false, .int .i64 0, .int .i64 0, .slice none 0 0, .slice none 0 0], .int .i64 191]) ∧ Below w.heap.size w w')
set_option maxRecDepth 100000 in
set_option maxHeartbeats 16000000 in
theorem decode_any (A B Ab : Option Addr) (n c m d nb cb : Nat) (L M : List ByteArray) (bs : List Int) (w : World) (hrow : Row w Ab (bs.map (Value.int .u8))) (hnb : nb = bs.length) (hnb2 : nb ≤ 1000000) (hby : bytes bs) (hnil : Ab = none → cb = 0) (hn : n = L.length) (hm : m = M.length) (hn2 : n ≤ 1000) (hm2 : m ≤ 1000) :
    Calls Tryd.prog 20 #[.agg #[.slice A n c, .slice B m d], .slice Ab nb cb] w (DecPost w L M bs) := by
  obtain ⟨w1, hw1⟩ : ∃ w1, w1 = (w.alloc (.cells #[.slice A n c, .slice B m d] 24)).alloc (.cells #[.bool false, .int .i64 0, .int .i64 0, .slice none 0 0, .slice none 0 0] 46) := ⟨_, rfl⟩
  have hb1 : Below w.heap.size w w1 := by rw [hw1]; exact bpush (bpush (Below.refl _ _) _) _
  have hz1 : w1.heap.size = w.heap.size + 2 := by rw [hw1]; simp
  have hA1 : w1.cell? ⟨w.heap.size, 0, none⟩ = some (.slice A n c) := by rw [hw1]; exact cell_on (bpush (Below.refl _ _) _) (cell_made rfl rfl)
  have hB1 : w1.cell? ⟨w.heap.size, 1, none⟩ = some (.slice B m d) := by rw [hw1]; exact cell_on (bpush (Below.refl _ _) _) (cell_made rfl rfl)
  have hQ1 : Blk w1 (w.heap.size + 1) 46 #[.bool false, .int .i64 0, .int .i64 0, .slice none 0 0, .slice none 0 0] := by
    rw [hw1]
    have := Blk.new (w.alloc (.cells #[.slice A n c, .slice B m d] 24)) 46 #[.bool false, .int .i64 0, .int .i64 0, .slice none 0 0, .slice none 0 0]
    simpa using this
  have HRES := Lib.hid (fun W (hf : Below w1.heap.size w1 W) => show (W.cell? ⟨w.heap.size, 0, none⟩ = some (.slice A n c) ∧ W.cell? ⟨w.heap.size, 1, none⟩ = some (.slice B m d)) ∧ Blk W (w.heap.size + 1) 46 #[.bool false, .int .i64 0, .int .i64 0, .slice none 0 0, .slice none 0 0] from ⟨⟨cell_on hf hA1, cell_on hf hB1⟩, hQ1.below hf hQ1.lt⟩)
  have HOP := Lib.hid (openq_all Ab nb cb bs w1 (hrow.keep (Nat.le_refl _) hb1) hnb2 hnb hnil)
  have HB1 := Lib.hid hb1
  have HZ1 := Lib.hid hz1
  have HW1 := Lib.hid hw1
  have HROW := Lib.hid hrow
  have HNB := Lib.hid hnb
  have HBY := Lib.hid hby
  have HNL := Lib.hid hn
  have HML := Lib.hid hm
  clear hrow hnb hby hnil hn hm hw1 hb1 hz1 hA1 hB1 hQ1
  go_enter Tryd.func20, Tryd.ntmps20
  go_upto_region 1 with fail
  rw [← HW1.out]
  clear HW1
  go_upto_region 4 with (go_at_call 42; refine HOP.out.mono ?_; rintro e w2 ⟨rb, rfl, hrb, hq, hb2⟩; have HRB := Lib.hid hrb; have HQ := Lib.hid hq; have HB2 := Lib.hid hb2; clear hrb hq hb2)
  obtain ⟨R, hR⟩ : ∃ R, R = w2.heap.size := ⟨_, rfl⟩
  obtain ⟨wb, hwb⟩ : ∃ wb, wb = w2.heap.size + 1 := ⟨_, rfl⟩
  obtain ⟨eb, heb⟩ : ∃ eb, eb = w2.heap.size + 1 + 1 := ⟨_, rfl⟩
  obtain ⟨w3, hw3⟩ : ∃ w3, w3 = ((w2.alloc (.cells #[.pointer (some ⟨rb, 0, none⟩)] 86)).alloc (.cells #[.bool true] 4)).alloc (.cells #[.bool false, .int .i64 0, .int .i64 0, .slice none 0 0, .slice none 0 0] 46) := ⟨_, rfl⟩
  have hb3 : Below w2.heap.size w2 w3 := by rw [hw3]; exact bpush (bpush (bpush (Below.refl _ _) _) _) _
  have hz3 : w3.heap.size = w2.heap.size + 3 := by rw [hw3]; simp
  have hkR : Blk w3 R 86 #[.pointer (some ⟨rb, 0, none⟩)] := by rw [hw3, hR]; exact ((Blk.new _ _ _).alloc _).alloc _
  have hkw : Blk w3 wb 4 #[.bool true] := by
    rw [hw3, hwb]
    have := (Blk.new (w2.alloc (.cells #[.pointer (some ⟨rb, 0, none⟩)] 86)) 4 #[.bool true]).alloc (.cells #[.bool false, .int .i64 0, .int .i64 0, .slice none 0 0, .slice none 0 0] 46)
    simpa using this
  have hke : Blk w3 eb 46 #[.bool false, .int .i64 0, .int .i64 0, .slice none 0 0, .slice none 0 0] := by
    rw [hw3, heb]
    have := Blk.new ((w2.alloc (.cells #[.pointer (some ⟨rb, 0, none⟩)] 86)).alloc (.cells #[.bool true] 4)) 46 #[.bool false, .int .i64 0, .int .i64 0, .slice none 0 0, .slice none 0 0]
    simpa using this
  have hst3 : StW w3 wb rb (some bs) := ⟨hkw, bs, HQ.out.keep hb3, HBY.out, .inr rfl⟩
  have hR3 : w3.cell? ⟨R, 0, none⟩ = some (.pointer (some ⟨rb, 0, none⟩)) := by rw [hkR.cell 0]; rfl
  have hord : rb < R ∧ R < wb ∧ wb < eb ∧ w1.heap.size ≤ rb ∧ w1.heap.size ≤ R := by
    have h1 := HQ.out.lt; have h2 := HB2.out.size; have h3 := HRB.out; omega
  obtain ⟨kd, s1, hk⟩ : ∃ kd s1, (kd, s1) = takeI 0 1 (some bs) := ⟨_, _, rfl⟩
  have HT1 := Lib.hid (take43 wb rb R (some bs) w3 clo44 hst3 hR3 kd s1 hk)
  have HB3 := Lib.hid (show Below w1.heap.size w1 w3 from bthen HB2.out hb3)
  have HK := Lib.hid hk
  have HKR := Lib.hid hkR
  have HKE := Lib.hid hke
  have HORD := Lib.hid hord
  have HW3 := Lib.hid hw3
  have HEB := Lib.hid heb
  have HWB := Lib.hid hwb
  have HRR := Lib.hid hR
  have hwb3 : wb < w3.heap.size ∧ eb < w3.heap.size ∧ R < w3.heap.size := ⟨hkw.lt, hke.lt, hkR.lt⟩
  clear hw3 hb3 hz3 hkR hkw hke hst3 hR3 hk hR hwb heb hord
  rw [← HW3.out, ← HEB.out, ← HWB.out, ← HRR.out]
  clear HW3 HEB HWB HRR HOP HQ HRB
  go_upto_region 5 with (go_at_call 43; refine HT1.out.mono ?_; rintro e w4 ⟨rfl, h4, hf4⟩; have H4 := Lib.hid h4; have HF4 := Lib.hid hf4; clear h4 hf4)
  clear HT1
  have HB4 := Lib.hid (show Below w1.heap.size w1 w4 from HB3.out.trans (HF4.out.below HB3.out.size (fun i hi => by have := HORD.out; omega)))
  have HK4 := Lib.hid (show Blk w4 R 86 #[.pointer (some ⟨rb, 0, none⟩)] ∧ Blk w4 eb 46 #[.bool false, .int .i64 0, .int .i64 0, .slice none 0 0, .slice none 0 0] from ⟨(HF4.out.block _ HKR.out.lt (by have := HORD.out; omega)).trans HKR.out, (HF4.out.block _ HKE.out.lt (by have := HORD.out; omega)).trans HKE.out⟩)
  by_cases hkd : kd = 1
  · have b1 : (kd == 1) = true := by rw [beq_iff_eq]; exact hkd
    obtain ⟨nw, s9', hn9⟩ : ∃ nw s9', (nw, s9') = takeI 0 1099511627776 s1 := ⟨_, _, rfl⟩
    have HTJ := Lib.hid (show SameJ (takeJ n m bs).1 (⟨true, nw, ⟨none, 0, 0, none, 0, 0, 0, [], []⟩⟩ : EZ) ∧ (takeJ n m bs).2 = s9' from by
      unfold takeJ
      rw [← HK.out]
      simp only []
      rw [if_pos hkd, ← hn9]
      exact ⟨⟨rfl, rfl, rfl, rfl, rfl⟩, rfl⟩)
    obtain ⟨w5, hw5⟩ : ∃ w5, w5 = w4.setCell ⟨eb, 0, none⟩ (.bool true) := ⟨_, rfl⟩
    have hb5 : Below eb w4 w5 := by rw [hw5]; exact (Below.refl _ _).setCell (p := ⟨eb, 0, none⟩) (Nat.le_refl _) _
    have hk5 : Blk w5 eb 46 #[.bool true, .int .i64 0, .int .i64 0, .slice none 0 0, .slice none 0 0] := by rw [hw5]; exact HK4.out.2.set_ 0 _
    have hr5 : Blk w5 R 86 #[.pointer (some ⟨rb, 0, none⟩)] := HK4.out.1.below hb5 (by have := HORD.out; omega)
    have HT2 := Lib.hid (take43 wb rb R s1 w5 clo46 (H4.out.under hb5 (by have := HORD.out; omega) (by have := HORD.out; omega)) (by rw [hr5.cell 0]; rfl) nw s9' hn9)
    have HK5 := Lib.hid hk5
    have HB5 := Lib.hid (show Below w1.heap.size w1 w5 from HB4.out.trans (hb5.mono (by have := HORD.out; omega)))
    have HW5 := Lib.hid hw5
    have e0 : w4.cell? ⟨eb, 0, none⟩ = some (.bool false) := by rw [HK4.out.2.cell 0]; rfl
    have f0 : w4.frozen? ⟨eb, 0, none⟩ = false := HK4.out.2.frozen 0
    clear hw5 hb5 hk5 hr5 hkd hn9
    go_upto_region 7 with fail
    rw [← HW5.out]
    clear HW5 e0 f0
    go_upto_region 9 with (go_at_call 43; refine HT2.out.mono ?_; rintro e w6 ⟨rfl, h6, hf6⟩; have H6 := Lib.hid h6; have HF6 := Lib.hid hf6; clear h6 hf6; have HK6 := Lib.hid ((HF6.out.block _ HK5.out.lt (by have := HORD.out; omega)).trans HK5.out); have e1 : w6.cell? ⟨eb, 1, none⟩ = some (.int .i64 0) := (by rw [Blk.cell HK6.out 1]; rfl); have f1 : w6.frozen? ⟨eb, 1, none⟩ = false := Blk.frozen HK6.out 1)
    clear e1 f1
    obtain ⟨wx, hwx⟩ : ∃ wx, wx = w6.setCell ⟨eb, 1, none⟩ (.int .i64 nw) := ⟨_, rfl⟩
    rw [← hwx]
    have hb6 : Below eb w6 wx := by rw [hwx]; exact (Below.refl _ _).setCell (p := ⟨eb, 1, none⟩) (Nat.le_refl _) _
    have HBX := Lib.hid (show Below w1.heap.size w1 wx from (HB5.out.trans (HF6.out.below HB5.out.size (fun i hi => by have := HORD.out; omega))).trans (hb6.mono (by have := HORD.out; omega)))
    obtain ⟨tk, htk⟩ : ∃ tk, tk = true := ⟨_, rfl⟩
    obtain ⟨E, hE⟩ : ∃ E : Option Addr, E = none := ⟨_, rfl⟩
    obtain ⟨F, hF⟩ : ∃ F : Option Addr, F = none := ⟨_, rfl⟩
    obtain ⟨p, hp⟩ : ∃ p : Nat, p = 0 := ⟨_, rfl⟩
    obtain ⟨q, hq⟩ : ∃ q : Nat, q = 0 := ⟨_, rfl⟩
    obtain ⟨x, hx⟩ : ∃ x : Nat, x = 0 := ⟨_, rfl⟩
    obtain ⟨y, hy⟩ : ∃ y : Nat, y = 0 := ⟨_, rfl⟩
    obtain ⟨t, ht⟩ : ∃ t : Int, t = 0 := ⟨_, rfl⟩
    obtain ⟨D, hD⟩ : ∃ D : List ByteArray, D = [] := ⟨_, rfl⟩
    obtain ⟨X, hX⟩ : ∃ X : List Int, X = [] := ⟨_, rfl⟩
    have HTJ := Lib.hid (show SameJ (takeJ n m bs).1 (⟨tk, nw, ⟨E, p, q, F, x, y, t, D, X⟩⟩ : EZ) ∧ (takeJ n m bs).2 = s9' from by
      rw [htk, ht, hD, hX]
      exact ⟨⟨HTJ.out.1.tick, HTJ.out.1.now, HTJ.out.1.t, HTJ.out.1.D, HTJ.out.1.X⟩, HTJ.out.2⟩)
    have HKX := Lib.hid (show Blk wx eb 46 #[.bool tk, .int .i64 nw, .int .i64 t, .slice E p q, .slice F x y] from by
      rw [htk, ht, hE, hF, hp, hq, hx, hy, hwx]
      exact Blk.set_ HK6.out 1 _)
    have HWX := Lib.hid (H6.out.under hb6 (by have := HORD.out; omega) (by have := HORD.out; omega))
    have HZK := Lib.hid (show ∀ W, Fr (fun i => i = w.heap.size + 1) wx W → EvO W ⟨E, p, q, F, x, y, t, D, X⟩ from fun W _ => by
      rw [hD, hX, hE, hF, hp, hq, hx, hy]
      exact ⟨World.ownsRow_nil _ _ _ _, World.ownsRow_nil _ _ _ _, fun s hs => by cases hs⟩)
    have HZX := Lib.hid (EvO.evg (HZK.out wx (Fr.refl _ _)))
    have HPX := Lib.hid (show p ≤ 1000 ∧ x ≤ 1000 by omega)
    clear hwx hb6 htk hE hF hp hq hx hy ht hD hX b1
    have HBW := Lib.hid (bthen HB1.out HBX.out)
    have HBZ := Lib.hid (HRES.out wx HBX.out)
    obtain ⟨s9, r9⟩ := HBZ.out
    have a0 := s9.1
    have a1 := s9.2
    have k0 : wx.cell? ⟨eb, 0, none⟩ = some (.bool tk) := by rw [HKX.out.cell 0]; rfl
    have k1 : wx.cell? ⟨eb, 1, none⟩ = some (.int .i64 nw) := by rw [HKX.out.cell 1]; rfl
    have k2 : wx.cell? ⟨eb, 2, none⟩ = some (.int .i64 t) := by rw [HKX.out.cell 2]; rfl
    have k3 : wx.cell? ⟨eb, 3, none⟩ = some (.slice E p q) := by rw [HKX.out.cell 3]; rfl
    have k4 : wx.cell? ⟨eb, 4, none⟩ = some (.slice F x y) := by rw [HKX.out.cell 4]; rfl
    have HEC := Lib.hid (encode_any A B n c m d L M ⟨tk, nw, ⟨E, p, q, F, x, y, t, D, X⟩⟩ wx HZX.out HNL.out HML.out hn2 hm2 (by show p ≤ _; have := HPX.out; omega) (by show x ≤ _; have := HPX.out; omega))
    have HKF := Lib.hid (fun W (hb : Below wx.heap.size wx W) => show StW W wb rb s9' ∧ Blk W eb 46 #[.bool tk, .int .i64 nw, .int .i64 t, .slice E p q, .slice F x y] ∧ Blk W (w.heap.size + 1) 46 #[.bool false, .int .i64 0, .int .i64 0, .slice none 0 0, .slice none 0 0] from ⟨HWX.out.keep hb, HKX.out.below hb HKX.out.lt, HBZ.out.2.below hb HBZ.out.2.lt⟩)
    clear s9 r9
    go_wp2_with fail
    refine HEC.out.mono ?_
    rintro e w9 (⟨hnr, rfl, hb9⟩ | ⟨hrt, g, cap, rfl, hc9, ho9, hb9⟩)
    · have HNO := Lib.hid (show ∀ z1, rightJ L M z1 → encJ z1 ≠ bs from fun z1 h1 h2 => hnr (by
        have h3 := (takeJ_enc h1).1
        rw [h2, ← HNL.out, ← HML.out] at h3
        exact (HTJ.out.1.symm.trans h3).symm.right h1))
      have HB9 := Lib.hid (bthen HBW.out hb9)
      obtain ⟨d1, d2, d3⟩ := HKF.out w9 hb9
      have w0 := d1.1.cell 0
      simp at w0
      have x0 := d3.cell 0
      have x1 := d3.cell 1
      have x2 := d3.cell 2
      have x3 := d3.cell 3
      have x4 := d3.cell 4
      simp at x0 x1 x2 x3 x4
      have f0 := d3.frozen 0
      have f1 := d3.frozen 1
      have f2 := d3.frozen 2
      have f3 := d3.frozen 3
      have f4 := d3.frozen 4
      have hGw := d3.lt
      clear hnr hb9 d1 d2 d3 a0 a1 k0 k1 k2 k3 k4
      cases s9' with
      | none =>
        have w1 : w9.cell? ⟨wb, 0, none⟩ = some (.bool false) := w0
        clear w0
        go_wp2_with fail
        refine bodyPost_ret (v := .tuple #[.agg #[.bool false, .int .i64 0, .int .i64 0, .slice none 0 0, .slice none 0 0], .int .i64 191]) (by simp [results, Tryd.results20, go_sem, x0, x1, x2, x3, x4]) rfl ?_
        exact .inr ⟨HNO.out, rfl, (((((HB9.out.setCell (p := ⟨w.heap.size + 1, 0, none⟩) (Nat.le_succ _) _).setCell (p := ⟨w.heap.size + 1, 1, none⟩) (Nat.le_succ _) _).setCell (p := ⟨w.heap.size + 1, 2, none⟩) (Nat.le_succ _) _).setCell (p := ⟨w.heap.size + 1, 3, none⟩) (Nat.le_succ _) _).setCell (p := ⟨w.heap.size + 1, 4, none⟩) (Nat.le_succ _) _)⟩
      | some r8 =>
        have w1 : w9.cell? ⟨wb, 0, none⟩ = some (.bool true) := w0
        clear w0
        go_wp2_with fail
        refine bodyPost_ret (v := .tuple #[.agg #[.bool false, .int .i64 0, .int .i64 0, .slice none 0 0, .slice none 0 0], .int .i64 191]) (by simp [results, Tryd.results20, go_sem, x0, x1, x2, x3, x4]) rfl ?_
        exact .inr ⟨HNO.out, rfl, (((((HB9.out.setCell (p := ⟨w.heap.size + 1, 0, none⟩) (Nat.le_succ _) _).setCell (p := ⟨w.heap.size + 1, 1, none⟩) (Nat.le_succ _) _).setCell (p := ⟨w.heap.size + 1, 2, none⟩) (Nat.le_succ _) _).setCell (p := ⟨w.heap.size + 1, 3, none⟩) (Nat.le_succ _) _).setCell (p := ⟨w.heap.size + 1, 4, none⟩) (Nat.le_succ _) _)⟩
    · have HB9 := Lib.hid (bthen HBW.out hb9)
      have HRT := Lib.hid hrt
      obtain ⟨d1, d2, d3⟩ := HKF.out w9 hb9
      have HF9 := Lib.hid (show Fr (fun i => i = w.heap.size + 1) wx w9 from Fr.of_below hb9)
      have w0 := d1.1.cell 0
      simp at w0
      have x0 := d3.cell 0
      have x1 := d3.cell 1
      have x2 := d3.cell 2
      have x3 := d3.cell 3
      have x4 := d3.cell 4
      simp at x0 x1 x2 x3 x4
      have f0 := d3.frozen 0
      have f1 := d3.frozen 1
      have f2 := d3.frozen 2
      have f3 := d3.frozen 3
      have f4 := d3.frozen 4
      have hGw := d3.lt
      obtain ⟨Y, hY⟩ : ∃ Y, Y = encJ ⟨tk, nw, ⟨E, p, q, F, x, y, t, D, X⟩⟩ := ⟨_, rfl⟩
      rw [← hY] at hc9 ho9 ⊢
      obtain ⟨ly, hly⟩ : ∃ ly, ly = Y.length := ⟨_, rfl⟩
      rw [← hly] at hc9 ho9 ⊢
      have HBI1 := Lib.hid (show Lib.BytesIn w9 (some ⟨g, 0, none⟩) ly Y by rw [hly]; exact bytes_in (row_own ho9))
      have HBI2 := Lib.hid (show Lib.BytesIn w9 Ab nb bs by rw [HNB.out]; exact bytes_in (HROW.out.keep (Nat.le_refl _) HB9.out))
      have HK9 := Lib.hid d2
      have HY := Lib.hid hY
      have HLY := Lib.hid hly
      clear hrt hb9 d1 d2 d3 hY hly ho9 a0 a1 k0 k1 k2 k3 k4
      cases s9' with
      | none =>
        have HNO := Lib.hid (show ∀ z1, rightJ L M z1 → encJ z1 ≠ bs from fun z1 h1 h2 => by
          have h3 := (takeJ_enc h1).2
          rw [h2, ← HNL.out, ← HML.out] at h3
          have h4 := HTJ.out.2
          rw [h3] at h4
          cases h4)
        have w1 : w9.cell? ⟨wb, 0, none⟩ = some (.bool false) := w0
        clear w0
        go_wp2_with fail
        refine bodyPost_ret (v := .tuple #[.agg #[.bool false, .int .i64 0, .int .i64 0, .slice none 0 0, .slice none 0 0], .int .i64 191]) (by simp [results, Tryd.results20, go_sem, x0, x1, x2, x3, x4]) rfl ?_
        exact .inr ⟨HNO.out, rfl, (((((HB9.out.setCell (p := ⟨w.heap.size + 1, 0, none⟩) (Nat.le_succ _) _).setCell (p := ⟨w.heap.size + 1, 1, none⟩) (Nat.le_succ _) _).setCell (p := ⟨w.heap.size + 1, 2, none⟩) (Nat.le_succ _) _).setCell (p := ⟨w.heap.size + 1, 3, none⟩) (Nat.le_succ _) _).setCell (p := ⟨w.heap.size + 1, 4, none⟩) (Nat.le_succ _) _)⟩
      | some r8 =>
        have w1 : w9.cell? ⟨wb, 0, none⟩ = some (.bool true) := w0
        clear w0
        by_cases heq : Y = bs
        · have eqt : (Lib.bytesOf Y == Lib.bytesOf bs) = true := by rw [heq]; simp
          have HEQ := Lib.hid heq
          have k0 : w9.cell? ⟨eb, 0, none⟩ = some (.bool tk) := by rw [HK9.out.cell 0]; rfl
          have k1 : w9.cell? ⟨eb, 1, none⟩ = some (.int .i64 nw) := by rw [HK9.out.cell 1]; rfl
          have k2 : w9.cell? ⟨eb, 2, none⟩ = some (.int .i64 t) := by rw [HK9.out.cell 2]; rfl
          have k3 : w9.cell? ⟨eb, 3, none⟩ = some (.slice E p q) := by rw [HK9.out.cell 3]; rfl
          have k4 : w9.cell? ⟨eb, 4, none⟩ = some (.slice F x y) := by rw [HK9.out.cell 4]; rfl
          clear heq
          go_wp2_with (go_at_call 48; refine (Tryd.bytes_Equal_all (some ⟨g, 0, none⟩) Ab ly cap nb cb Y bs _ HLY.out.symm HNB.out.symm HBI1.out HBI2.out).mono ?_; rintro e w10 ⟨rfl, rfl⟩; rw [eqt])
          refine bodyPost_ret (v := .tuple #[.agg #[.bool tk, .int .i64 nw, .int .i64 t, .slice E p q, .slice F x y], .int .i64 0]) (by simp [results, Tryd.results20, go_sem, x0, x1, x2, x3, x4]) rfl ?_
          exact .inl ⟨⟨tk, nw, ⟨E, p, q, F, x, y, t, D, X⟩⟩, HRT.out, by rw [← HY.out, HEQ.out], HZK.out _ (((((HF9.out.set_ (.inl (show w.heap.size + 1 = w.heap.size + 1 from rfl)) _).set_ (.inl (show w.heap.size + 1 = w.heap.size + 1 from rfl)) _).set_ (.inl (show w.heap.size + 1 = w.heap.size + 1 from rfl)) _).set_ (.inl (show w.heap.size + 1 = w.heap.size + 1 from rfl)) _).set_ (.inl (show w.heap.size + 1 = w.heap.size + 1 from rfl)) _), rfl, (((((HB9.out.setCell (p := ⟨w.heap.size + 1, 0, none⟩) (Nat.le_succ _) _).setCell (p := ⟨w.heap.size + 1, 1, none⟩) (Nat.le_succ _) _).setCell (p := ⟨w.heap.size + 1, 2, none⟩) (Nat.le_succ _) _).setCell (p := ⟨w.heap.size + 1, 3, none⟩) (Nat.le_succ _) _).setCell (p := ⟨w.heap.size + 1, 4, none⟩) (Nat.le_succ _) _)⟩
        · have HNO := Lib.hid (show ∀ z1, rightJ L M z1 → encJ z1 ≠ bs from fun z1 h1 h2 => heq (by
            have h3 := (takeJ_enc h1).1
            rw [h2, ← HNL.out, ← HML.out] at h3
            rw [HY.out, ← h2]
            exact (HTJ.out.1.symm.trans h3).enc))
          have eqf : (Lib.bytesOf Y == Lib.bytesOf bs) = false := by
            rw [beq_eq_false_iff_ne]
            exact fun h => heq (bytesOf_inj (by rw [HY.out]; exact encJ_bytes _) HBY.out h)
          clear heq
          go_wp2_with (go_at_call 48; refine (Tryd.bytes_Equal_all (some ⟨g, 0, none⟩) Ab ly cap nb cb Y bs _ HLY.out.symm HNB.out.symm HBI1.out HBI2.out).mono ?_; rintro e w10 ⟨rfl, rfl⟩; rw [eqf])
          refine bodyPost_ret (v := .tuple #[.agg #[.bool false, .int .i64 0, .int .i64 0, .slice none 0 0, .slice none 0 0], .int .i64 191]) (by simp [results, Tryd.results20, go_sem, x0, x1, x2, x3, x4]) rfl ?_
          exact .inr ⟨HNO.out, rfl, (((((HB9.out.setCell (p := ⟨w.heap.size + 1, 0, none⟩) (Nat.le_succ _) _).setCell (p := ⟨w.heap.size + 1, 1, none⟩) (Nat.le_succ _) _).setCell (p := ⟨w.heap.size + 1, 2, none⟩) (Nat.le_succ _) _).setCell (p := ⟨w.heap.size + 1, 3, none⟩) (Nat.le_succ _) _).setCell (p := ⟨w.heap.size + 1, 4, none⟩) (Nat.le_succ _) _)⟩
  · have b1 : (kd == 1) = false := by rw [beq_eq_false_iff_ne]; exact hkd
    obtain ⟨t, s2, ht2⟩ : ∃ t s2, (t, s2) = takeI 0 1099511627776 s1 := ⟨_, _, rfl⟩
    obtain ⟨D, s3, hd3⟩ : ∃ D s3, (D, s3) = takeD n s2 := ⟨_, _, rfl⟩
    obtain ⟨X, s9', hx4⟩ : ∃ X s9', (X, s9') = takeX m s3 := ⟨_, _, rfl⟩
    have HTJ0 := Lib.hid (show SameJ (takeJ n m bs).1 (zJ false 0 t D X) ∧ (takeJ n m bs).2 = s9' from by
      unfold takeJ
      rw [← HK.out]
      simp only []
      rw [if_neg hkd, ← ht2]
      simp only []
      rw [← hd3]
      simp only []
      rw [← hx4]
      exact ⟨⟨rfl, rfl, rfl, rfl, rfl⟩, rfl⟩)
    have hDl : n = D.length := by have := takeD_len n s2; rw [← hd3] at this; exact this.symm
    have hXl : m = X.length := by have := takeX_len m s3; rw [← hx4] at this; exact this.symm
    have hDs : ∀ s ∈ D, s.size ≤ 24 := by have := takeD_size n s2; rw [← hd3] at this; exact this
    have HDL := Lib.hid hDl
    have HXL := Lib.hid hXl
    have HDS := Lib.hid hDs
    have HEV := Lib.hid (event_any wb rb A B n c m d s1 w4 H4.out hn2 hm2 t s2 s3 s9' D X ht2 hd3 hx4)
    obtain ⟨⟨c1, c2⟩, _⟩ := HRES.out w4 HB4.out
    have c3 : w4.cell? ⟨R, 0, none⟩ = some (.pointer (some ⟨rb, 0, none⟩)) := by rw [HK4.out.1.cell 0]; rfl
    clear hkd ht2 hd3 hx4 hDl hXl hDs
    go_upto_region 9 with (go_at_call 47; refine HEV.out.mono ?_; rintro e w5 ⟨E, q, F, y, rfl, od, ox, h5, hf5⟩; have HOD := Lib.hid od; have HOX := Lib.hid ox; have H5 := Lib.hid h5; have HF5 := Lib.hid hf5; clear od ox h5 hf5; have HK5 := Lib.hid ((HF5.out.block _ HK4.out.2.lt (by have := HORD.out; omega)).trans HK4.out.2); have e1 : w5.cell? ⟨eb, 2, none⟩ = some (.int .i64 0) := (by rw [Blk.cell HK5.out 2]; rfl); have e2 : w5.cell? ⟨eb, 3, none⟩ = some (.slice none 0 0) := (by rw [Blk.cell HK5.out 3]; rfl); have e3 : w5.cell? ⟨eb, 4, none⟩ = some (.slice none 0 0) := (by rw [Blk.cell HK5.out 4]; rfl); have f1 : w5.frozen? ⟨eb, 2, none⟩ = false := Blk.frozen HK5.out 2; have f2 : w5.frozen? ⟨eb, 3, none⟩ = false := Blk.frozen HK5.out 3; have f3 : w5.frozen? ⟨eb, 4, none⟩ = false := Blk.frozen HK5.out 4)
    clear e1 e2 e3 f1 f2 f3 c1 c2 c3
    obtain ⟨wx, hwx⟩ : ∃ wx, wx = ((w5.setCell ⟨eb, 2, none⟩ (.int .i64 t)).setCell ⟨eb, 3, none⟩ (.slice E n q)).setCell ⟨eb, 4, none⟩ (.slice F m y) := ⟨_, rfl⟩
    rw [← hwx]
    have hb6 : Below eb w5 wx := by rw [hwx]; exact (((Below.refl _ _).setCell (p := ⟨eb, 2, none⟩) (Nat.le_refl _) _).setCell (p := ⟨eb, 3, none⟩) (Nat.le_refl _) _).setCell (p := ⟨eb, 4, none⟩) (Nat.le_refl _) _
    have hf6 : Fr (fun i => i = eb) w5 wx := by rw [hwx]; exact (((Fr.refl (fun i => i = eb) w5).set_ (.inl (show eb = eb from rfl)) _).set_ (.inl (show eb = eb from rfl)) _).set_ (.inl (show eb = eb from rfl)) _
    have heb4 : eb < w4.heap.size := HK4.out.2.lt
    have hw4 : w.heap.size + 1 < w4.heap.size := by have h1 := HB4.out.size; have h2 := HZ1.out; omega
    have HBX := Lib.hid (show Below w1.heap.size w1 wx from (HB4.out.trans (HF5.out.below HB4.out.size (fun i hi => by have := HORD.out; omega))).trans (hb6.mono (by have := HORD.out; omega)))
    obtain ⟨tk, htk⟩ : ∃ tk, tk = false := ⟨_, rfl⟩
    obtain ⟨nw, hnw⟩ : ∃ nw : Int, nw = 0 := ⟨_, rfl⟩
    obtain ⟨p, hp⟩ : ∃ p : Nat, p = n := ⟨_, rfl⟩
    obtain ⟨x, hx⟩ : ∃ x : Nat, x = m := ⟨_, rfl⟩
    have HTJ := Lib.hid (show SameJ (takeJ n m bs).1 (⟨tk, nw, ⟨E, p, q, F, x, y, t, D, X⟩⟩ : EZ) ∧ (takeJ n m bs).2 = s9' from by
      rw [htk, hnw]
      exact ⟨⟨HTJ0.out.1.tick, HTJ0.out.1.now, HTJ0.out.1.t, HTJ0.out.1.D, HTJ0.out.1.X⟩, HTJ0.out.2⟩)
    have HKX := Lib.hid (show Blk wx eb 46 #[.bool tk, .int .i64 nw, .int .i64 t, .slice E p q, .slice F x y] from by
      rw [htk, hnw, hp, hx, hwx]
      exact ((Blk.set_ HK5.out 2 _).set_ 3 _).set_ 4 _)
    have HWX := Lib.hid (H5.out.under hb6 (by have := HORD.out; omega) (by have := HORD.out; omega))
    have HZK := Lib.hid (show ∀ W, Fr (fun i => i = w.heap.size + 1) wx W → EvO W ⟨E, p, q, F, x, y, t, D, X⟩ from fun W hW => by
      have d1 := own_frJ HOD.out hf6 (fun b hb e => by have := own_far HOD.out hb; omega)
      have d2 := own_frJ d1 hW (fun b hb e => by have := own_far d1 hb; omega)
      have x1 := own_frJ HOX.out hf6 (fun b hb e => by have := own_far HOX.out hb; omega)
      have x2 := own_frJ x1 hW (fun b hb e => by have := own_far x1 hb; omega)
      rw [hp, hx]
      exact ⟨own_less d2 (Nat.zero_le _), own_less x2 (Nat.zero_le _), HDS.out⟩)
    have HZX := Lib.hid (EvO.evg (HZK.out wx (Fr.refl _ _)))
    have HPX := Lib.hid (show p ≤ 1000 ∧ x ≤ 1000 by omega)
    have HPN := Lib.hid (And.intro hp hx)
    rw [← hp, ← hx]
    clear hwx hb6 hf6 heb4 hw4 htk hnw hp hx b1
    have HBW := Lib.hid (bthen HB1.out HBX.out)
    have HBZ := Lib.hid (HRES.out wx HBX.out)
    obtain ⟨s9, r9⟩ := HBZ.out
    have a0 := s9.1
    have a1 := s9.2
    have k0 : wx.cell? ⟨eb, 0, none⟩ = some (.bool tk) := by rw [HKX.out.cell 0]; rfl
    have k1 : wx.cell? ⟨eb, 1, none⟩ = some (.int .i64 nw) := by rw [HKX.out.cell 1]; rfl
    have k2 : wx.cell? ⟨eb, 2, none⟩ = some (.int .i64 t) := by rw [HKX.out.cell 2]; rfl
    have k3 : wx.cell? ⟨eb, 3, none⟩ = some (.slice E p q) := by rw [HKX.out.cell 3]; rfl
    have k4 : wx.cell? ⟨eb, 4, none⟩ = some (.slice F x y) := by rw [HKX.out.cell 4]; rfl
    have HEC := Lib.hid (encode_any A B n c m d L M ⟨tk, nw, ⟨E, p, q, F, x, y, t, D, X⟩⟩ wx HZX.out HNL.out HML.out hn2 hm2 (by show p ≤ _; have := HPX.out; omega) (by show x ≤ _; have := HPX.out; omega))
    have HKF := Lib.hid (fun W (hb : Below wx.heap.size wx W) => show StW W wb rb s9' ∧ Blk W eb 46 #[.bool tk, .int .i64 nw, .int .i64 t, .slice E p q, .slice F x y] ∧ Blk W (w.heap.size + 1) 46 #[.bool false, .int .i64 0, .int .i64 0, .slice none 0 0, .slice none 0 0] from ⟨HWX.out.keep hb, HKX.out.below hb HKX.out.lt, HBZ.out.2.below hb HBZ.out.2.lt⟩)
    clear s9 r9
    go_wp2_with fail
    refine HEC.out.mono ?_
    rintro e w9 (⟨hnr, rfl, hb9⟩ | ⟨hrt, g, cap, rfl, hc9, ho9, hb9⟩)
    · have HNO := Lib.hid (show ∀ z1, rightJ L M z1 → encJ z1 ≠ bs from fun z1 h1 h2 => hnr (by
        have h3 := (takeJ_enc h1).1
        rw [h2, ← HNL.out, ← HML.out] at h3
        exact (HTJ.out.1.symm.trans h3).symm.right h1))
      have HB9 := Lib.hid (bthen HBW.out hb9)
      obtain ⟨d1, d2, d3⟩ := HKF.out w9 hb9
      have w0 := d1.1.cell 0
      simp at w0
      have x0 := d3.cell 0
      have x1 := d3.cell 1
      have x2 := d3.cell 2
      have x3 := d3.cell 3
      have x4 := d3.cell 4
      simp at x0 x1 x2 x3 x4
      have f0 := d3.frozen 0
      have f1 := d3.frozen 1
      have f2 := d3.frozen 2
      have f3 := d3.frozen 3
      have f4 := d3.frozen 4
      have hGw := d3.lt
      clear hnr hb9 d1 d2 d3 a0 a1 k0 k1 k2 k3 k4
      cases s9' with
      | none =>
        have w1 : w9.cell? ⟨wb, 0, none⟩ = some (.bool false) := w0
        clear w0
        go_wp2_with fail
        refine bodyPost_ret (v := .tuple #[.agg #[.bool false, .int .i64 0, .int .i64 0, .slice none 0 0, .slice none 0 0], .int .i64 191]) (by simp [results, Tryd.results20, go_sem, x0, x1, x2, x3, x4]) rfl ?_
        exact .inr ⟨HNO.out, rfl, (((((HB9.out.setCell (p := ⟨w.heap.size + 1, 0, none⟩) (Nat.le_succ _) _).setCell (p := ⟨w.heap.size + 1, 1, none⟩) (Nat.le_succ _) _).setCell (p := ⟨w.heap.size + 1, 2, none⟩) (Nat.le_succ _) _).setCell (p := ⟨w.heap.size + 1, 3, none⟩) (Nat.le_succ _) _).setCell (p := ⟨w.heap.size + 1, 4, none⟩) (Nat.le_succ _) _)⟩
      | some r8 =>
        have w1 : w9.cell? ⟨wb, 0, none⟩ = some (.bool true) := w0
        clear w0
        go_wp2_with fail
        refine bodyPost_ret (v := .tuple #[.agg #[.bool false, .int .i64 0, .int .i64 0, .slice none 0 0, .slice none 0 0], .int .i64 191]) (by simp [results, Tryd.results20, go_sem, x0, x1, x2, x3, x4]) rfl ?_
        exact .inr ⟨HNO.out, rfl, (((((HB9.out.setCell (p := ⟨w.heap.size + 1, 0, none⟩) (Nat.le_succ _) _).setCell (p := ⟨w.heap.size + 1, 1, none⟩) (Nat.le_succ _) _).setCell (p := ⟨w.heap.size + 1, 2, none⟩) (Nat.le_succ _) _).setCell (p := ⟨w.heap.size + 1, 3, none⟩) (Nat.le_succ _) _).setCell (p := ⟨w.heap.size + 1, 4, none⟩) (Nat.le_succ _) _)⟩
    · have HB9 := Lib.hid (bthen HBW.out hb9)
      have HRT := Lib.hid hrt
      obtain ⟨d1, d2, d3⟩ := HKF.out w9 hb9
      have HF9 := Lib.hid (show Fr (fun i => i = w.heap.size + 1) wx w9 from Fr.of_below hb9)
      have w0 := d1.1.cell 0
      simp at w0
      have x0 := d3.cell 0
      have x1 := d3.cell 1
      have x2 := d3.cell 2
      have x3 := d3.cell 3
      have x4 := d3.cell 4
      simp at x0 x1 x2 x3 x4
      have f0 := d3.frozen 0
      have f1 := d3.frozen 1
      have f2 := d3.frozen 2
      have f3 := d3.frozen 3
      have f4 := d3.frozen 4
      have hGw := d3.lt
      obtain ⟨Y, hY⟩ : ∃ Y, Y = encJ ⟨tk, nw, ⟨E, p, q, F, x, y, t, D, X⟩⟩ := ⟨_, rfl⟩
      rw [← hY] at hc9 ho9 ⊢
      obtain ⟨ly, hly⟩ : ∃ ly, ly = Y.length := ⟨_, rfl⟩
      rw [← hly] at hc9 ho9 ⊢
      have HBI1 := Lib.hid (show Lib.BytesIn w9 (some ⟨g, 0, none⟩) ly Y by rw [hly]; exact bytes_in (row_own ho9))
      have HBI2 := Lib.hid (show Lib.BytesIn w9 Ab nb bs by rw [HNB.out]; exact bytes_in (HROW.out.keep (Nat.le_refl _) HB9.out))
      have HK9 := Lib.hid d2
      have HY := Lib.hid hY
      have HLY := Lib.hid hly
      clear hrt hb9 d1 d2 d3 hY hly ho9 a0 a1 k0 k1 k2 k3 k4
      cases s9' with
      | none =>
        have HNO := Lib.hid (show ∀ z1, rightJ L M z1 → encJ z1 ≠ bs from fun z1 h1 h2 => by
          have h3 := (takeJ_enc h1).2
          rw [h2, ← HNL.out, ← HML.out] at h3
          have h4 := HTJ.out.2
          rw [h3] at h4
          cases h4)
        have w1 : w9.cell? ⟨wb, 0, none⟩ = some (.bool false) := w0
        clear w0
        go_wp2_with fail
        refine bodyPost_ret (v := .tuple #[.agg #[.bool false, .int .i64 0, .int .i64 0, .slice none 0 0, .slice none 0 0], .int .i64 191]) (by simp [results, Tryd.results20, go_sem, x0, x1, x2, x3, x4]) rfl ?_
        exact .inr ⟨HNO.out, rfl, (((((HB9.out.setCell (p := ⟨w.heap.size + 1, 0, none⟩) (Nat.le_succ _) _).setCell (p := ⟨w.heap.size + 1, 1, none⟩) (Nat.le_succ _) _).setCell (p := ⟨w.heap.size + 1, 2, none⟩) (Nat.le_succ _) _).setCell (p := ⟨w.heap.size + 1, 3, none⟩) (Nat.le_succ _) _).setCell (p := ⟨w.heap.size + 1, 4, none⟩) (Nat.le_succ _) _)⟩
      | some r8 =>
        have w1 : w9.cell? ⟨wb, 0, none⟩ = some (.bool true) := w0
        clear w0
        by_cases heq : Y = bs
        · have eqt : (Lib.bytesOf Y == Lib.bytesOf bs) = true := by rw [heq]; simp
          have HEQ := Lib.hid heq
          have k0 : w9.cell? ⟨eb, 0, none⟩ = some (.bool tk) := by rw [HK9.out.cell 0]; rfl
          have k1 : w9.cell? ⟨eb, 1, none⟩ = some (.int .i64 nw) := by rw [HK9.out.cell 1]; rfl
          have k2 : w9.cell? ⟨eb, 2, none⟩ = some (.int .i64 t) := by rw [HK9.out.cell 2]; rfl
          have k3 : w9.cell? ⟨eb, 3, none⟩ = some (.slice E p q) := by rw [HK9.out.cell 3]; rfl
          have k4 : w9.cell? ⟨eb, 4, none⟩ = some (.slice F x y) := by rw [HK9.out.cell 4]; rfl
          clear heq
          go_wp2_with (go_at_call 48; refine (Tryd.bytes_Equal_all (some ⟨g, 0, none⟩) Ab ly cap nb cb Y bs _ HLY.out.symm HNB.out.symm HBI1.out HBI2.out).mono ?_; rintro e w10 ⟨rfl, rfl⟩; rw [eqt])
          refine bodyPost_ret (v := .tuple #[.agg #[.bool tk, .int .i64 nw, .int .i64 t, .slice E p q, .slice F x y], .int .i64 0]) (by simp [results, Tryd.results20, go_sem, x0, x1, x2, x3, x4]) rfl ?_
          exact .inl ⟨⟨tk, nw, ⟨E, p, q, F, x, y, t, D, X⟩⟩, HRT.out, by rw [← HY.out, HEQ.out], HZK.out _ (((((HF9.out.set_ (.inl (show w.heap.size + 1 = w.heap.size + 1 from rfl)) _).set_ (.inl (show w.heap.size + 1 = w.heap.size + 1 from rfl)) _).set_ (.inl (show w.heap.size + 1 = w.heap.size + 1 from rfl)) _).set_ (.inl (show w.heap.size + 1 = w.heap.size + 1 from rfl)) _).set_ (.inl (show w.heap.size + 1 = w.heap.size + 1 from rfl)) _), rfl, (((((HB9.out.setCell (p := ⟨w.heap.size + 1, 0, none⟩) (Nat.le_succ _) _).setCell (p := ⟨w.heap.size + 1, 1, none⟩) (Nat.le_succ _) _).setCell (p := ⟨w.heap.size + 1, 2, none⟩) (Nat.le_succ _) _).setCell (p := ⟨w.heap.size + 1, 3, none⟩) (Nat.le_succ _) _).setCell (p := ⟨w.heap.size + 1, 4, none⟩) (Nat.le_succ _) _)⟩
        · have HNO := Lib.hid (show ∀ z1, rightJ L M z1 → encJ z1 ≠ bs from fun z1 h1 h2 => heq (by
            have h3 := (takeJ_enc h1).1
            rw [h2, ← HNL.out, ← HML.out] at h3
            rw [HY.out, ← h2]
            exact (HTJ.out.1.symm.trans h3).enc))
          have eqf : (Lib.bytesOf Y == Lib.bytesOf bs) = false := by
            rw [beq_eq_false_iff_ne]
            exact fun h => heq (bytesOf_inj (by rw [HY.out]; exact encJ_bytes _) HBY.out h)
          clear heq
          go_wp2_with (go_at_call 48; refine (Tryd.bytes_Equal_all (some ⟨g, 0, none⟩) Ab ly cap nb cb Y bs _ HLY.out.symm HNB.out.symm HBI1.out HBI2.out).mono ?_; rintro e w10 ⟨rfl, rfl⟩; rw [eqf])
          refine bodyPost_ret (v := .tuple #[.agg #[.bool false, .int .i64 0, .int .i64 0, .slice none 0 0, .slice none 0 0], .int .i64 191]) (by simp [results, Tryd.results20, go_sem, x0, x1, x2, x3, x4]) rfl ?_
          exact .inr ⟨HNO.out, rfl, (((((HB9.out.setCell (p := ⟨w.heap.size + 1, 0, none⟩) (Nat.le_succ _) _).setCell (p := ⟨w.heap.size + 1, 1, none⟩) (Nat.le_succ _) _).setCell (p := ⟨w.heap.size + 1, 2, none⟩) (Nat.le_succ _) _).setCell (p := ⟨w.heap.size + 1, 3, none⟩) (Nat.le_succ _) _).setCell (p := ⟨w.heap.size + 1, 4, none⟩) (Nat.le_succ _) _)⟩
end Go.Proofs.YthogafecplhckaaDoor
