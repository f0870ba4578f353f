/- Append (16). -/
import Derived.Test.YthogafecplhckaaDoorNF
import Derived.Test.YthogafecplhckaaDoorVLN
import Derived.Test.YthogafecplhckaaDoorVFK
import Derived.Test.YthogafecplhckaaDoorCIZ
namespace Go.Proofs.YthogafecplhckaaDoor
open Go.RowKit
set_option linter.unusedSimpArgs false
set_option linter.unusedVariables false
theorem Left.after {w w1 w' : World} {B a : Nat} {V V' : VZ} (hb : Below w.heap.size w w1) (k : Left w1 w' B a V V') : Left w w' B a V V' :=
  ⟨k.rep, (Fr.of_below hb).trans k.fr, fun i hi => by
    have := hb.size
    rcases k.foot i hi with h | h
    · exact .inl h
    · exact .inr (by omega)⟩
theorem Left.trans {w w1 w2 : World} {B a : Nat} {V V1 V2 : VZ} (k1 : Left w w1 B a V V1) (k2 : Left w1 w2 B a V1 V2) : Left w w2 B a V V2 := by
  have hsz := k1.fr.size
  refine ⟨k2.rep, ⟨k2.fr.os.trans k1.fr.os, k2.fr.tape.trans k1.fr.tape, k2.fr.output.trans k1.fr.output, Nat.le_trans k1.fr.size k2.fr.size, fun i hi hn => ?_⟩, fun i hi => ?_⟩
  · refine (k2.fr.block i (by omega) (fun hf => ?_)).trans (k1.fr.block i hi hn)
    rcases k1.foot i hf with h | h
    · exact hn h
    · omega
  · rcases k2.foot i hi with h | h
    · exact k1.foot i h
    · exact .inr (by omega)
/-- What Append does to a vault. -/
noncomputable def jappS (P : VZ) (s : ByteArray) (bs : List Int) : VZ × Int := if (appendS P s bs).2 = 0 then syncS (appendS P s bs).1 s else appendS P s bs
def JAppP (w : World) (B a : Nat) (V : VZ) (L M : List ByteArray) (z : EZ) (s : ByteArray) (e : Ending) (w' : World) : Prop :=
  (¬ rightJ L M z ∧ e = .returned (.int .i64 191) ∧ Below w.heap.size w w') ∨ (rightJ L M z ∧ ActP w B a V (jappS (normZ V) s (blockL (encJ z))) e w')
theorem encJ_len {L M : List ByteArray} {z : EZ} (h : rightJ L M z) (h1 : L.length ≤ 1000) (h2 : M.length ≤ 1000) : 1 ≤ (encJ z).length ∧ (encJ z).length ≤ 20 + 34 * L.length + 10 * M.length := by
  cases ht : z.tick with
  | true =>
    have h3 := enc_bd 1
    have h4 := enc_bd z.now
    unfold encJ
    rw [if_pos ht, List.length_append]
    omega
  | false =>
    obtain ⟨_, h3⟩ := right_event h ht
    have h4 := enc_bd 0
    have h5 := enc_bd z.ev.t
    have h6 := flat_len z.ev.D (fun s hs => (h3.dv s hs).1)
    have h7 := flat_lenV z.ev.X
    have h8 := h3.dl
    have h9 := h3.xl
    unfold encJ
    rw [if_neg (by rw [ht]; simp)]
    simp only [List.length_append]
    omega
theorem blockL_len (bs : List Int) : 5 ≤ (blockL bs).length ∧ (blockL bs).length ≤ bs.length + 14 := by
  unfold blockL headL
  have := enc_bd (bs.length : Int)
  simp only [List.length_append, show ∀ s, (sumB s).length = 4 from fun _ => rfl]
  omega
theorem code_cases (P : VZ) (s : ByteArray) (bs : List Int) : (appendS P s bs).2 = 0 ∨ (appendS P s bs).2 = 31 ∨ (appendS P s bs).2 = 272 ∨ (appendS P s bs).2 = 32 := by
  unfold appendS
  split
  · exact .inr (.inl rfl)
  · split
    · exact .inr (.inr (.inl rfl))
    · split
      · exact .inr (.inr (.inr rfl))
      · exact .inl rfl
set_option maxRecDepth 100000 in
set_option maxHeartbeats 8000000 in
theorem jappend_any (B a : Nat) (V : VZ) (s : ByteArray) (A0 B0 : Option Addr) (n c m d : Nat) (L M : List ByteArray) (z : EZ) (w : World) (hT : Tab w) (h : VRep w B a V) (hs : s.size ≤ 9223372036854775807) (hz : EvG w z.ev) (hn : n = L.length) (hm : m = M.length) (hn2 : n ≤ 1000) (hm2 : m ≤ 1000) (hp2 : z.ev.p ≤ 9223372036854775807) (hx2 : z.ev.x ≤ 9223372036854775807) :
    Calls Tryd.prog 16 #[.pointer (some ⟨a, 0, none⟩), .string s, .agg #[.slice A0 n c, .slice B0 m d], z.arg] w (JAppP w B a V L M z s) := by
  obtain ⟨w1, hw1⟩ : ∃ w1, w1 = (w.alloc (.cells #[.slice A0 n c, .slice B0 m d] 24)).alloc (.cells #[.bool z.tick, .int .i64 z.now, .int .i64 z.ev.t, .slice z.ev.E z.ev.p z.ev.q, .slice z.ev.F z.ev.x z.ev.y] 46) := ⟨_, rfl⟩
  have hb1 : Below w.heap.size w w1 := by rw [hw1]; exact bpush (bpush (Below.refl _ _) _) _
  have s0 : w1.cell? ⟨w.heap.size, 0, none⟩ = some (.slice A0 n c) := by rw [hw1]; exact cell_on (bpush (Below.refl _ _) _) (cell_made rfl rfl)
  have s1 : w1.cell? ⟨w.heap.size, 1, none⟩ = some (.slice B0 m d) := by rw [hw1]; exact cell_on (bpush (Below.refl _ _) _) (cell_made rfl rfl)
  have e0 : w1.cell? ⟨w.heap.size + 1, 0, none⟩ = some (.bool z.tick) := by rw [hw1]; exact cell_made (by simp) rfl
  have e1 : w1.cell? ⟨w.heap.size + 1, 1, none⟩ = some (.int .i64 z.now) := by rw [hw1]; exact cell_made (by simp) rfl
  have e2 : w1.cell? ⟨w.heap.size + 1, 2, none⟩ = some (.int .i64 z.ev.t) := by rw [hw1]; exact cell_made (by simp) rfl
  have e3 : w1.cell? ⟨w.heap.size + 1, 3, none⟩ = some (.slice z.ev.E z.ev.p z.ev.q) := by rw [hw1]; exact cell_made (by simp) rfl
  have e4 : w1.cell? ⟨w.heap.size + 1, 4, none⟩ = some (.slice z.ev.F z.ev.x z.ev.y) := by rw [hw1]; exact cell_made (by simp) rfl
  have HE := Lib.hid (encode_any A0 B0 n c m d L M z w1 (hz.keep (Nat.le_refl _) hb1) hn hm hn2 hm2 hp2 hx2)
  have HB1 := Lib.hid hb1
  have HW1 := Lib.hid hw1
  have HT := Lib.hid (hT.keep hb1)
  have HV := Lib.hid h
  have HN := Lib.hid hn
  have HM := Lib.hid hm
  clear hb1 hw1 hT h hz hn hm hp2 hx2
  go_enter Tryd.func16, Tryd.ntmps16
  go_upto_region 1 with fail
  rw [← HW1.out]
  clear HW1
  go_wp2_with fail
  refine HE.out.mono ?_
  rintro e w2 (⟨hnr, rfl, hb2⟩ | ⟨hr, g, cap, rfl, hc2, ho2, hb2⟩)
  · have HNR := Lib.hid hnr
    have HB2 := Lib.hid (bthen HB1.out hb2)
    clear hnr hb2 s0 s1 e0 e1 e2 e3 e4
    go_wp2_with fail
    go_ret
    exact .inl ⟨HNR.out, rfl, HB2.out⟩
  · obtain ⟨Y, hY⟩ : ∃ Y, Y = encJ z := ⟨_, rfl⟩
    have hyb := encJ_len hr (by have := HN.out; omega) (by have := HM.out; omega)
    rw [← hY] at hc2 ho2 hyb ⊢
    obtain ⟨ly, hly⟩ : ∃ ly, ly = Y.length := ⟨_, rfl⟩
    rw [← hly] at hc2 ho2 hyb ⊢
    have hlyb : ly ≤ 60000 := by have := HN.out; have := HM.out; omega
    have hYb : bytes Y := by rw [hY]; exact encJ_bytes z
    have HR := Lib.hid hr
    have HB2 := Lib.hid (bthen HB1.out hb2)
    have HBL := Lib.hid (block_any (some ⟨g, 0, none⟩) ly cap Y w2 (HT.out.keep hb2) (row_own ho2) hly (by omega) hYb (fun e => by cases e))
    have HY := Lib.hid hY
    have HLY := Lib.hid hly
    have HYB := Lib.hid hYb
    clear hr hb2 ho2 hc2 hyb hY hly hYb s0 s1 e0 e1 e2 e3 e4
    go_wp2_with fail
    refine HBL.out.mono ?_
    rintro e w3 ⟨A3, c3, rfl, hr3, hc3, hb3, ho3⟩
    obtain ⟨Z, hZ⟩ : ∃ Z, Z = blockL Y := ⟨_, rfl⟩
    have hzb := blockL_len Y
    rw [← hZ] at hr3 hc3 ho3 hzb ⊢
    obtain ⟨lz, hlz⟩ : ∃ lz, lz = Z.length := ⟨_, rfl⟩
    rw [← hlz] at hc3 ho3 hzb ⊢
    have hlzb : lz ≤ 60014 := by have := HLY.out; omega
    obtain ⟨A4, c4, he4, hr4, hc4, hn4⟩ := own_slice ho3
    cases he4
    have HB3 := Lib.hid (bthen HB2.out hb3)
    have HV3 := Lib.hid (HV.out.below HB3.out)
    have hfar : Z ≠ [] → ∀ b o, A3 = some ⟨b, o, none⟩ → ¬ Foot a V b := fun _ b o hA hf => by
      have h1 := own_far ho3 (g := b) (by rw [hA]; rfl)
      have h2 := (HV.out.foot_lt hf).1
      have h3 := HB2.out.size
      omega
    have HAP := Lib.hid (append_any B a V s A3 lz c3 Z w3 HV3.out hs hr3 hlz hc3 hn4 (by rw [hZ]; exact blockL_bytes HYB.out) (by omega) hfar)
    have HZ := Lib.hid hZ
    clear hZ hzb hlz hr3 hc3 ho3 hr4 hc4 hn4 hb3 hfar
    go_wp2_with fail
    refine HAP.out.mono ?_
    obtain ⟨P1, er, hP1⟩ : ∃ P1 er, (P1, er) = appendS (normZ V) s Z := ⟨_, _, rfl⟩
    rw [← hP1]
    rintro e w4 ⟨V4, rfl, hV4, hL4⟩
    have hcode := code_cases (normZ V) s Z
    rw [← hP1] at hcode
    simp only [] at hcode hV4 ⊢
    have HL4 := Lib.hid (hL4.after HB3.out)
    by_cases h0 : er = 0
    · subst h0
      have HJ := Lib.hid (show jappS (normZ V) s (blockL (encJ z)) = syncS P1 s by
        unfold jappS
        rw [← HY.out, ← HZ.out, ← hP1, if_pos rfl])
      have HSY := Lib.hid (sync_any B a V4 s w4 hL4.rep hs)
      rw [hV4] at HSY
      clear hcode hP1 hV4 hL4
      go_wp2_with fail
      refine HSY.out.mono ?_
      rintro e w5 ⟨V5, rfl, hV5, hL5⟩
      have HP := Lib.hid (show JAppP w B a V L M z s (.returned (.int .i64 (syncS P1 s).2)) w5 from .inr ⟨HR.out, V5, by rw [HJ.out], by rw [HJ.out]; exact hV5, HL4.out.trans hL5⟩)
      obtain ⟨er5, h5⟩ : ∃ er5, er5 = (syncS P1 s).2 := ⟨_, rfl⟩
      rw [← h5] at HP ⊢
      clear h5 hV5 hL5
      go_wp2_with fail
      go_ret
      exact HP.out
    · have HJ := Lib.hid (show jappS (normZ V) s (blockL (encJ z)) = (P1, er) by
        unfold jappS
        rw [← HY.out, ← HZ.out, ← hP1, if_neg h0])
      have h0b : (er != 0) = true := by rw [bne_iff_ne]; exact h0
      have HP := Lib.hid (show JAppP w B a V L M z s (.returned (.int .i64 er)) w4 from .inr ⟨HR.out, V4, by rw [HJ.out], by rw [HJ.out]; exact hV4, HL4.out⟩)
      clear hcode hP1 hV4 hL4 h0
      go_wp2_with fail
      go_ret
      exact HP.out
end Go.Proofs.YthogafecplhckaaDoor
