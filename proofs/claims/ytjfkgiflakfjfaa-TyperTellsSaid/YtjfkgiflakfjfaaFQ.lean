/- Whether all names of a query are the schema's: the program's named (20). -/
import Derived.Test.YtjfkgiflakfjfaaFP
namespace Go.Proofs.Ytjfkgiflakfjfaa
open Go.RowKit Go.Maps Go.Lib Go.Shelf
set_option linter.unusedSimpArgs false
set_option linter.unusedVariables false
def tmN (M : List ByteArray) (t : Int × ByteArray) : Bool := decide (t.1 = 0) || inT M t.2
def hvN (M : List ByteArray) (h : Int × ByteArray × Int × Int) : Bool := tmN M (h.1, h.2.1)
def lfN (L : List ByteArray) (x : FT) : Bool := inT L x.dim
def namedS (L M : List ByteArray) (q : QZ) : Bool := q.BY.all (inT L) && q.f.leaves.all (lfN L) && q.T.all (tmN M) && q.H.all (hvN M)
theorem all_snoc {α : Type} (p : α → Bool) (l : List α) (x : α) : (l ++ [x]).all p = (l.all p && p x) := by simp
theorem keep_of_fr {P : Nat} {b : Bool} {W W' : World} (h : Blk W P 4 #[.bool b]) (k : Fr (fun i => i = P) W W') : KeepT W W' :=
  ⟨k.size, fun g t cs ht hb => k.blk hb fun e => by
    subst e
    rcases ht with rfl | rfl
    · exact hb.ne_ h (by decide) rfl
    · exact hb.ne_ h (by decide) rfl⟩
/-- What holds in each moment of named. -/
structure NmSt (w w1 : World) (P : Nat) (b : Bool) (W : World) : Prop where
  fr : Fr (fun i => i = P) w1 W
  blk : Blk W P 4 #[.bool b]
theorem NmSt.below {w w1 W : World} {P : Nat} {b : Bool} (h : NmSt w w1 P b W) (hb : Below w.heap.size w w1) (hp : w.heap.size ≤ P) : Below w.heap.size w W :=
  hb.trans (h.fr.below hb.size (fun i hi => by omega))
theorem NmSt.more {w w1 W W' : World} {P : Nat} {b : Bool} (h : NmSt w w1 P b W) (hb : Below W.heap.size W W') : NmSt w w1 P b W' :=
  ⟨h.fr.trans (Fr.of_below hb), h.blk.below hb⟩
theorem NmSt.upd {w w1 W W' : World} {P : Nat} {b r : Bool} (h : NmSt w w1 P b W) (hp : Blk W' P 4 #[.bool r]) (hf : Fr (fun i => i = P) W W') : NmSt w w1 P r W' := ⟨h.fr.trans hf, hp⟩
theorem NmSt.old {w w1 W : World} {P : Nat} {b : Bool} (h : NmSt w w1 P b W) {g : Nat} {t : TypeId} {cs : Array Value} (hb : Blk w1 g t cs) (hg : g ≠ P) : Blk W g t cs := h.fr.blk hb hg
set_option maxRecDepth 100000 in
set_option maxHeartbeats 32000000 in
theorem named_any (A B : Option Addr) (n c m d : Nat) (L M : List ByteArray) (q : QZ) (w : World) (hL : StrsIn w A n c L) (hM : StrsIn w B m d M) (hq : QIn w q) :
    Calls Try.prog 20 #[.agg #[.slice A n c, .slice B m d], .agg #[.slice q.tA q.tn q.tc, .int .i64 q.frm, .int .i64 q.upto, .int .i64 q.every, .slice q.bA q.bn q.bc, .int .i64 q.f.op, .string q.f.dim, .string q.f.val, .slice q.f.A q.f.n q.f.c, .slice q.hA q.hn q.hc, .int .i64 q.order, .int .i64 q.limit]] w fun e w' => e = .returned (.bool (namedS L M q)) ∧ Below w.heap.size w w' := by
  obtain ⟨w1, hw1⟩ : ∃ w1, w1 = (((w.alloc (.cells #[.slice A n c, .slice B m d] 24)).alloc (.cells #[.slice q.tA q.tn q.tc, .int .i64 q.frm, .int .i64 q.upto, .int .i64 q.every, .slice q.bA q.bn q.bc, .int .i64 q.f.op, .string q.f.dim, .string q.f.val, .slice q.f.A q.f.n q.f.c, .slice q.hA q.hn q.hc, .int .i64 q.order, .int .i64 q.limit] 32)).alloc (.cells #[.bool true] 4)).alloc (.cells #[.func (.func 38) #[] #[.pointer (some ⟨w.heap.size, 0, none⟩), .pointer (some ⟨w.heap.size + 2, 0, none⟩)]] 67) := ⟨_, rfl⟩
  have hb1 : Below w.heap.size w w1 := by rw [hw1]; exact bpush (bpush (bpush (bpush (Below.refl _ _) _) _) _) _
  have hSB : Blk w1 w.heap.size 24 #[.slice A n c, .slice B m d] := by
    rw [hw1]; exact (Blk.new w 24 #[.slice A n c, .slice B m d]).below (bpush (bpush (bpush (Below.refl _ _) _) _) _)
  have hQB : Blk w1 (w.heap.size + 1) 32 #[.slice q.tA q.tn q.tc, .int .i64 q.frm, .int .i64 q.upto, .int .i64 q.every, .slice q.bA q.bn q.bc, .int .i64 q.f.op, .string q.f.dim, .string q.f.val, .slice q.f.A q.f.n q.f.c, .slice q.hA q.hn q.hc, .int .i64 q.order, .int .i64 q.limit] := by
    have := (Blk.new (w.alloc (.cells #[.slice A n c, .slice B m d] 24)) 32 #[.slice q.tA q.tn q.tc, .int .i64 q.frm, .int .i64 q.upto, .int .i64 q.every, .slice q.bA q.bn q.bc, .int .i64 q.f.op, .string q.f.dim, .string q.f.val, .slice q.f.A q.f.n q.f.c, .slice q.hA q.hn q.hc, .int .i64 q.order, .int .i64 q.limit]).below (w' := w1) (by rw [hw1]; exact bpush (bpush (Below.refl _ _) _) _)
    simpa using this
  have hPB : Blk w1 (w.heap.size + 2) 4 #[.bool true] := by
    have := (Blk.new ((w.alloc (.cells #[.slice A n c, .slice B m d] 24)).alloc (.cells #[.slice q.tA q.tn q.tc, .int .i64 q.frm, .int .i64 q.upto, .int .i64 q.every, .slice q.bA q.bn q.bc, .int .i64 q.f.op, .string q.f.dim, .string q.f.val, .slice q.f.A q.f.n q.f.c, .slice q.hA q.hn q.hc, .int .i64 q.order, .int .i64 q.limit] 32)) 4 #[.bool true]).below (w' := w1) (by rw [hw1]; exact bpush (Below.refl _ _) _)
    simpa using this
  have hDB : Blk w1 (w.heap.size + 3) 67 #[.func (.func 38) #[] #[.pointer (some ⟨w.heap.size, 0, none⟩), .pointer (some ⟨w.heap.size + 2, 0, none⟩)]] := by
    have := Blk.new (((w.alloc (.cells #[.slice A n c, .slice B m d] 24)).alloc (.cells #[.slice q.tA q.tn q.tc, .int .i64 q.frm, .int .i64 q.upto, .int .i64 q.every, .slice q.bA q.bn q.bc, .int .i64 q.f.op, .string q.f.dim, .string q.f.val, .slice q.f.A q.f.n q.f.c, .slice q.hA q.hn q.hc, .int .i64 q.order, .int .i64 q.limit] 32)).alloc (.cells #[.bool true] 4)) 67 #[.func (.func 38) #[] #[.pointer (some ⟨w.heap.size, 0, none⟩), .pointer (some ⟨w.heap.size + 2, 0, none⟩)]]
    rw [hw1]; simpa using this
  obtain ⟨P, hPe⟩ : ∃ P, P = w.heap.size + 2 := ⟨_, rfl⟩
  obtain ⟨S, hSe⟩ : ∃ S, S = w.heap.size := ⟨_, rfl⟩
  obtain ⟨Q, hQe⟩ : ∃ Q, Q = w.heap.size + 1 := ⟨_, rfl⟩
  obtain ⟨D, hDe⟩ : ∃ D, D = w.heap.size + 3 := ⟨_, rfl⟩
  have HPW := Lib.hid (show w.heap.size ≤ P by omega)
  have HSP := Lib.hid (show S ≠ P by omega)
  have HQP := Lib.hid (show Q ≠ P by omega)
  have HDP := Lib.hid (show D ≠ P by omega)
  rw [← hDe, ← hPe, ← hSe] at hDB
  rw [← hSe] at hSB
  rw [← hQe] at hQB
  rw [← hPe] at hPB
  have HB1 := Lib.hid hb1
  have HSB := Lib.hid hSB
  have HQB := Lib.hid hQB
  have HDB := Lib.hid hDB
  have HL := Lib.hid hL
  have HM := Lib.hid hM
  have HQ := Lib.hid hq
  have HW1 := Lib.hid hw1
  have HPE := Lib.hid hPe
  have HSE := Lib.hid hSe
  have HQE := Lib.hid hQe
  have HDE := Lib.hid (show D = P + 1 by omega)
  have HST0 := Lib.hid (show NmSt w w1 P true w1 from ⟨Fr.refl _ _, hPB⟩)
  have c4 : w1.cell? ⟨Q, 4, none⟩ = some (.slice q.bA q.bn q.bc) := by rw [hQB.cell 4]; rfl
  have hbn := hq.by_.max
  have htn := hq.tmax
  have hhn := hq.hmax
  obtain ⟨oo, hoo⟩ : ∃ o, o = namedS L M q := ⟨_, rfl⟩
  rw [← hoo]
  have HOO := Lib.hid hoo
  clear hw1 hb1 hSB hQB hDB hPB hL hM hq hPe hSe hQe hDe hoo
  go_enter Try.func20, Try.ntmps20
  go_upto_region 4 with fail
  rw [← HW1.out, ← HPE.out, ← HQE.out, ← HDE.out, ← HSE.out]
  go_upto_region 5 with fail
  clear c4
  go_loopw [19] (fun v19 wr => ∃ k : Nat, k ≤ q.bn ∧ v19 = .int .i64 k ∧ Hid (NmSt w w1 P ((q.BY.take k).all (inT L)) wr)) (fun i _ => q.bn - (intOf i).toNat)
  case atStart => exact ⟨0, by omega, rfl, by simpa using HST0⟩
  case round =>
    obtain ⟨k, hk, rfl, HS⟩ := hrel
    by_cases hlt : k < q.bn
    · have hkz0 : (0 : Int) ≤ (k : Int) := by omega
      have hkz1 : (k : Int) < (q.bn : Int) := by omega
      have hkz : k < q.BY.length := by have := HQ.out.by_.len; omega
      have hBW := HS.out.below HB1.out HPW.out
      obtain ⟨b, off, hAe, q0⟩ := text_cell (HQ.out.by_.row.keep (Nat.le_refl _) hBW) hkz
      obtain ⟨x, hx⟩ : ∃ x, x = q.BY[k] := ⟨_, rfl⟩
      rw [← hx] at q0
      have HSN := Lib.hid (show (q.BY.take (k + 1)).all (inT L) = ((q.BY.take k).all (inT L) && inT L x) by
        rw [take_snoc _ _ hkz, all_snoc, hx])
      have hdb := HS.out.old HDB.out HDP.out
      have qD : wr.cell? ⟨D, 0, none⟩ = some (.func (.func 38) #[] #[.pointer (some ⟨S, 0, none⟩), .pointer (some ⟨P, 0, none⟩)]) := by rw [hdb.cell 0]; rfl
      have HC := Lib.hid (dim38 A B n c m d S P L x _ wr (HS.out.old HSB.out HSP.out) (HL.out.row.keep (Nat.le_refl _) hBW) HL.out.len HL.out.max HS.out.blk)
      obtain ⟨r, hr⟩ : ∃ r, r = (q.BY.take k).all (inT L) := ⟨_, rfl⟩
      rw [← hr] at HSN HC HS
      rw [hAe]
      clear hlt hdb hx hBW hr
      go_wp2_with (go_at_call 38; refine HC.out.mono ?_; rintro e w2 ⟨rfl, hp, hf⟩; have HN2 := Lib.hid (HS.out.upd hp hf); clear hp hf)
      go_roundw
      case rel => exact ⟨k + 1, by omega, by go_num, by rw [HSN.out]; exact HN2⟩
      case measure => simp [intOf]; omega
    · obtain rfl : k = q.bn := by omega
      have hkz1 : ¬ (q.bn : Int) < (q.bn : Int) := by omega
      have HE := Lib.hid (show q.BY.take q.bn = q.BY from List.take_of_length_le (by have := HQ.out.by_.len; omega))
      rw [HE.out] at HS
      obtain ⟨wo, rfl⟩ : ∃ wo : World, wo = wr := ⟨_, rfl⟩
      obtain ⟨b1, hb1⟩ : ∃ b, b = q.BY.all (inT L) := ⟨_, rfl⟩
      rw [← hb1] at HS
      have HBE1 := Lib.hid hb1
      have hTK : Taker 42 #[.pointer (some ⟨D, 0, none⟩)] w q.f.leaves.length (fun W Lf => NmSt w w1 P (b1 && Lf.all (lfN L)) W) := {
        fn := fun args w => rfl
        old := fun W Lf h => h.below HB1.out HPW.out
        more := fun W W' Lf h hb => h.more hb
        call := fun W Lf x _ h hx => by
          refine (take42 A B n c m d S P D L x _ W (h.old HSB.out HSP.out) (HL.out.row.keep (Nat.le_refl _) (h.below HB1.out HPW.out)) HL.out.len HL.out.max h.blk (h.old HDB.out HDP.out)).mono ?_
          rintro e W' ⟨rfl, hp, hf⟩
          refine ⟨rfl, ?_, keep_of_fr h.blk hf⟩
          have := h.upd hp hf
          rw [all_snoc, ← Bool.and_assoc]
          exact this }
      have HLV := Lib.hid (leaves_any hTK q.f wo [] HQ.out.f (by simp) (by simpa using HS.out))
      have hqb := HS.out.old HQB.out HQP.out
      have c5 : wo.cell? ⟨Q, 5, none⟩ = some (.int .i64 q.f.op) := by rw [hqb.cell 5]; rfl
      have c6 : wo.cell? ⟨Q, 6, none⟩ = some (.string q.f.dim) := by rw [hqb.cell 6]; rfl
      have c7 : wo.cell? ⟨Q, 7, none⟩ = some (.string q.f.val) := by rw [hqb.cell 7]; rfl
      have c8 : wo.cell? ⟨Q, 8, none⟩ = some (.slice q.f.A q.f.n q.f.c) := by rw [hqb.cell 8]; rfl
      clear hlt HE hb1 hTK hqb
      go_upto_region 10 with (go_at_call 26; refine HLV.out.mono ?_; rintro e w2 ⟨rfl, hi, -⟩; have HN2 := Lib.hid hi; have qb2 := hi.old HQB.out HQP.out; have c0 : w2.cell? ⟨Q, 0, none⟩ = some (.slice q.tA q.tn q.tc) := (by rw [qb2.cell 0]; rfl); clear hi qb2)
      clear c5 c6 c7 c8
      rw [List.nil_append] at HN2
      obtain ⟨b2, hb2⟩ : ∃ b, b = (b1 && q.f.leaves.all (lfN L)) := ⟨_, rfl⟩
      rw [← hb2] at HN2
      have HBE2 := Lib.hid hb2
      clear hb2
      go_upto_region 11 with fail
      clear c0
      go_loopw [34] (fun v34 wr => ∃ k : Nat, k ≤ q.tn ∧ v34 = .int .i64 k ∧ Hid (NmSt w w1 P (b2 && (q.T.take k).all (tmN M)) wr)) (fun i _ => q.tn - (intOf i).toNat)
      case atStart => exact ⟨0, by omega, rfl, by simpa using HN2⟩
      case round =>
        clear HN2 HLV
        obtain ⟨k, hk, rfl, HS2⟩ := hrel
        by_cases hlt : k < q.tn
        · have hkz0 : (0 : Int) ≤ (k : Int) := by omega
          have hkz1 : (k : Int) < (q.tn : Int) := by omega
          have hkz : k < q.T.length := by have := HQ.out.tlen; omega
          have hBW := HS2.out.below HB1.out HPW.out
          obtain ⟨b, off, hAe, q0, q1⟩ := term_cells (HQ.out.trow.keep (Nat.le_refl _) hBW) hkz
          obtain ⟨x, hx⟩ : ∃ x, x = q.T[k] := ⟨_, rfl⟩
          rw [← hx] at q0 q1
          have HSN := Lib.hid (show (b2 && (q.T.take (k + 1)).all (tmN M)) = (b2 && (q.T.take k).all (tmN M) && tmN M x) by
            rw [take_snoc _ _ hkz, all_snoc, hx, Bool.and_assoc])
          obtain ⟨wb, hwb⟩ : ∃ wb, wb = wr.alloc (.cells #[.int .i64 x.1, .string x.2] 47) := ⟨_, rfl⟩
          have hbb : Below wr.heap.size wr wb := by rw [hwb]; exact bpush (Below.refl _ _) _
          have hbk : Blk wb wr.heap.size 47 #[.int .i64 x.1, .string x.2] := by rw [hwb]; exact Blk.new _ _ _
          have hSb := HS2.out.more hbb
          have HC := Lib.hid (term40 A B n c m d S P M x _ wb (hSb.old HSB.out HSP.out) (HM.out.row.keep (Nat.le_refl _) (hSb.below HB1.out HPW.out)) HM.out.len HM.out.max hSb.blk)
          obtain ⟨r, hr⟩ : ∃ r, r = (b2 && (q.T.take k).all (tmN M)) := ⟨_, rfl⟩
          rw [← hr] at HSN HC hSb
          have HSB2 := Lib.hid hSb
          have HWB := Lib.hid hwb
          rw [hAe]
          clear hwb hbb hSb hlt hx hBW hr HS2
          go_upto_region 13 with fail
          rw [← HWB.out]
          clear q0 q1
          have q0 : wb.cell? ⟨wr.heap.size, 0, none⟩ = some (.int .i64 x.1) := by rw [hbk.cell 0]; rfl
          have q1 : wb.cell? ⟨wr.heap.size, 1, none⟩ = some (.string x.2) := by rw [hbk.cell 1]; rfl
          clear hbk
          go_wp2_with (go_at_call 40; refine HC.out.mono ?_; rintro e w2 ⟨rfl, hp, hf⟩; have HN2 := Lib.hid (HSB2.out.upd hp hf); clear hp hf)
          go_roundw
          case rel => exact ⟨k + 1, by omega, by go_num, by rw [HSN.out]; exact HN2⟩
          case measure => simp [intOf]; omega
        · obtain rfl : k = q.tn := by omega
          have hkz1 : ¬ (q.tn : Int) < (q.tn : Int) := by omega
          have HE := Lib.hid (show q.T.take q.tn = q.T from List.take_of_length_le (by have := HQ.out.tlen; omega))
          rw [HE.out] at HS2
          obtain ⟨wp, rfl⟩ : ∃ wp : World, wp = wr := ⟨_, rfl⟩
          obtain ⟨b3, hb3⟩ : ∃ b, b = (b2 && q.T.all (tmN M)) := ⟨_, rfl⟩
          rw [← hb3] at HS2
          have HBE3 := Lib.hid hb3
          have hqb := HS2.out.old HQB.out HQP.out
          have c9 : wp.cell? ⟨Q, 9, none⟩ = some (.slice q.hA q.hn q.hc) := by rw [hqb.cell 9]; rfl
          clear hlt HE hb3 hqb
          go_upto_region 16 with fail
          clear c9
          go_loopw [45] (fun v45 wr => ∃ k : Nat, k ≤ q.hn ∧ v45 = .int .i64 k ∧ Hid (NmSt w w1 P (b3 && (q.H.take k).all (hvN M)) wr)) (fun i _ => q.hn - (intOf i).toNat)
          case atStart => exact ⟨0, by omega, rfl, by simpa using HS2⟩
          case round =>
            clear HS2
            obtain ⟨k, hk, rfl, HS3⟩ := hrel
            by_cases hlt : k < q.hn
            · have hkz0 : (0 : Int) ≤ (k : Int) := by omega
              have hkz1 : (k : Int) < (q.hn : Int) := by omega
              have hkz : k < q.H.length := by have := HQ.out.hlen; omega
              have hBW := HS3.out.below HB1.out HPW.out
              obtain ⟨b, off, hAe, q0, q1, q2, q3⟩ := having_cells (HQ.out.hrow.keep (Nat.le_refl _) hBW) hkz
              obtain ⟨x, hx⟩ : ∃ x, x = q.H[k] := ⟨_, rfl⟩
              rw [← hx] at q0 q1 q2 q3
              have HSN := Lib.hid (show (b3 && (q.H.take (k + 1)).all (hvN M)) = (b3 && (q.H.take k).all (hvN M) && hvN M x) by
                rw [take_snoc _ _ hkz, all_snoc, hx, Bool.and_assoc])
              obtain ⟨wb, hwb⟩ : ∃ wb, wb = wr.alloc (.cells #[.int .i64 x.1, .string x.2.1, .int .i64 x.2.2.1, .int .i64 x.2.2.2] 61) := ⟨_, rfl⟩
              have hbb : Below wr.heap.size wr wb := by rw [hwb]; exact bpush (Below.refl _ _) _
              have hbk : Blk wb wr.heap.size 61 #[.int .i64 x.1, .string x.2.1, .int .i64 x.2.2.1, .int .i64 x.2.2.2] := by rw [hwb]; exact Blk.new _ _ _
              have hSb := HS3.out.more hbb
              have HC := Lib.hid (term40 A B n c m d S P M (x.1, x.2.1) _ wb (hSb.old HSB.out HSP.out) (HM.out.row.keep (Nat.le_refl _) (hSb.below HB1.out HPW.out)) HM.out.len HM.out.max hSb.blk)
              obtain ⟨r, hr⟩ : ∃ r, r = (b3 && (q.H.take k).all (hvN M)) := ⟨_, rfl⟩
              rw [← hr] at HSN HC hSb
              have HSB2 := Lib.hid hSb
              have HWB := Lib.hid hwb
              rw [hAe]
              clear hwb hbb hSb hlt hx hBW hr HS3
              go_upto_region 18 with fail
              rw [← HWB.out]
              clear q0 q1 q2 q3
              have q0 : wb.cell? ⟨wr.heap.size, 0, none⟩ = some (.int .i64 x.1) := by rw [hbk.cell 0]; rfl
              have q1 : wb.cell? ⟨wr.heap.size, 1, none⟩ = some (.string x.2.1) := by rw [hbk.cell 1]; rfl
              clear hbk
              go_wp2_with (go_at_call 40; refine HC.out.mono ?_; rintro e w2 ⟨rfl, hp, hf⟩; have HN2 := Lib.hid (HSB2.out.upd hp hf); clear hp hf)
              go_roundw
              case rel => exact ⟨k + 1, by omega, by go_num, by rw [HSN.out]; exact HN2⟩
              case measure => simp [intOf]; omega
            · obtain rfl : k = q.hn := by omega
              have hkz1 : ¬ (q.hn : Int) < (q.hn : Int) := by omega
              have HE := Lib.hid (show q.H.take q.hn = q.H from List.take_of_length_le (by have := HQ.out.hlen; omega))
              rw [HE.out] at HS3
              obtain ⟨b4, hb4⟩ : ∃ b, b = (b3 && q.H.all (hvN M)) := ⟨_, rfl⟩
              rw [← hb4] at HS3
              have HBE4 := Lib.hid (show oo = b4 by rw [HOO.out, hb4, HBE3.out, HBE2.out, HBE1.out]; rfl)
              have cP : wr.cell? ⟨P, 0, none⟩ = some (.bool b4) := by rw [HS3.out.blk.cell 0]; rfl
              clear hlt HE hb4
              go_wp2_with fail
              go_ret
              exact ⟨by rw [HBE4.out]; rfl, HS3.out.below HB1.out HPW.out⟩
end Go.Proofs.Ytjfkgiflakfjfaa
