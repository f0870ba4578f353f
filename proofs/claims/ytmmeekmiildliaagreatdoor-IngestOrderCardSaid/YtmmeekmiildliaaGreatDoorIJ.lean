/- Len (21), Count (22), Rows (17), Copy (16) of an index. -/
import Derived.Test.YtmmeekmiildliaaGreatDoorIE
import Derived.Test.YtmmeekmiildliaaGreatDoorIF
import Derived.Test.YtmmeekmiildliaaGreatDoorRH
import Derived.Maps.OwnSet
namespace Go.Proofs.YtmmeekmiildliaaGreatDoor
open Go.RowKit Go.Shelf
set_option linter.unusedSimpArgs false
set_option linter.unusedVariables false
section
variable {w : World} {B bx mb nn : Nat} {g : Int} {L M : List ByteArray} {V : List RV}
theorem blk_get {b : Nat} {t : TypeId} {cs : Array Value} {i : Nat} {u : Value} (h : Blk w b t cs) (hu : cs[i]? = some u) : w.cell? ⟨b, i, none⟩ = some u := (h.cell i).trans hu
set_option maxRecDepth 100000 in
set_option maxHeartbeats 4000000 in
theorem len_any (h : Ix w B bx mb g L M V nn) : Calls Tryz.prog 21 #[.pointer (some ⟨bx, 0, none⟩)] w fun e w' => e = .returned (.int .i64 (V.length : Nat)) ∧ w' = w := by
  obtain ⟨A, n, c, E, m, d, h3, h4, h5⟩ := h.blk
  obtain ⟨D, Z, hown, hD, hV, hO⟩ := h.rows
  have HL := Lib.hid (show Maps.size D = V.length by rw [hD.size, ← hV.perm.length_eq, List.length_map])
  have c2 : w.cell? ⟨bx, 3, none⟩ = some (.map (some mb)) := blk_get h3 rfl
  clear h3 h4 h5 hD hV hO
  go_enter Tryz.func21, Tryz.ntmps21
  go_wp2_with (at_len; refine wpList_len_own _ rfl _ 71 rfl 9 59 Tryz.underlying71 RM mb nn D rfl hown ?_; rw [HL.out]; go_frame)
  go_ret
  exact ⟨rfl, rfl⟩
theorem count_any (h : Ix w B bx mb g L M V nn) : Calls Tryz.prog 22 #[.pointer (some ⟨bx, 0, none⟩)] w fun e w' => e = .returned (.int .i64 (nn : Nat)) ∧ w' = w := by
  obtain ⟨A, n, c, E, m, d, h3, h4, h5⟩ := h.blk
  have c2 : w.cell? ⟨bx, 4, none⟩ = some (.int .i64 (nn : Nat)) := blk_get h3 rfl
  clear h3 h4 h5 h
  go_enter Tryz.func22, Tryz.ntmps22
  go_wp2
  go_ret
  exact ⟨rfl, rfl⟩
theorem len_nil (w : World) : Calls Tryz.prog 21 #[.pointer none] w fun e w' => e = .returned (.int .i64 0) ∧ w' = w := by
  go_enter Tryz.func21, Tryz.ntmps21
  go_wp2
  go_ret
  exact ⟨rfl, rfl⟩
theorem count_nil (w : World) : Calls Tryz.prog 22 #[.pointer none] w fun e w' => e = .returned (.int .i64 0) ∧ w' = w := by
  go_enter Tryz.func22, Tryz.ntmps22
  go_wp2
  go_ret
  exact ⟨rfl, rfl⟩
theorem rows_nil (w : World) : Calls Tryz.prog 17 #[.pointer none] w fun e w' => e = .returned (.slice none 0 0) ∧ w' = w := by
  go_enter Tryz.func17, Tryz.ntmps17
  go_wp2
  go_ret
  exact ⟨rfl, rfl⟩
theorem copy_nil (w : World) : Calls Tryz.prog 16 #[.pointer none] w fun e w' => e = .returned (.pointer none) ∧ w' = w := by
  go_enter Tryz.func16, Tryz.ntmps16
  go_wp2
  go_ret
  exact ⟨rfl, rfl⟩
theorem add_nil (v : Value) (t : Int) (E F : Option Addr) (p q x y : Nat) (w : World) : Calls Tryz.prog 18 #[.pointer none, .agg #[.int .i64 t, .slice E p q, .slice F x y]] w fun e w' => e = .returned (.int .i64 1) ∧ Below w.heap.size w w' := by
  go_enter Tryz.func18, Tryz.ntmps18
  go_wp2
  go_ret
  exact ⟨rfl, bpush (Below.refl _ _) _⟩
def XRows (w : World) (V : List RV) (e : Ending) (w' : World) : Prop := ∃ A c Y, e = .returned (.slice A V.length c) ∧ w'.ownsRow w.heap.size 59 4 (.slice A V.length c) V.length (cellsR Y) ∧ Y.map Prod.snd = V ∧ (∀ y ∈ Y, Owned w.heap.size w' y) ∧ Below w.heap.size w w'
set_option maxRecDepth 100000 in
set_option maxHeartbeats 8000000 in
theorem rows_any (h : Ix w B bx mb g L M V nn) (hn : nn ≤ 1000000) : Calls Tryz.prog 17 #[.pointer (some ⟨bx, 0, none⟩)] w (XRows w V) := by
  have hlen := h.len
  obtain ⟨A, n, c, E, m, d, h3, h4, h5⟩ := h.blk
  obtain ⟨D, Z, hown, hD, hV, hO⟩ := h.rows
  have c2 : w.cell? ⟨bx, 3, none⟩ = some (.map (some mb)) := blk_get h3 rfl
  have HLN := Lib.hid (show Z.length = V.length by rw [← hV.perm.length_eq, List.length_map])
  obtain ⟨W1, hW1⟩ : ∃ W1, W1 = w.alloc (.cells #[.map (some mb)] 71) := ⟨_, rfl⟩
  have hb1 : Below w.heap.size w W1 := by rw [hW1]; exact bpush (Below.refl _ _) _
  have hm1 : W1.cell? ⟨w.heap.size, 0, none⟩ = some (.map (some mb)) := by rw [hW1]; exact cell_made rfl rfl
  have HSF := Lib.hid (sortedf_any w.heap.size mb nn D Z W1 hD (by rw [HLN.out]; omega) hm1 (hown.kept (grown_none hb1) (by simp)) (fun z hz => ((hO z hz).keep hb1).good))
  have HMK := Lib.hid (show Calls Tryz.prog 40 #[.map (some mb)] w (fun e w' => e = .returned (.func (.func 68) #[] #[.pointer (some ⟨w.heap.size, 0, none⟩)]) ∧ w' = W1) from by rw [hW1]; exact vmaker (some mb) w)
  have HV := Lib.hid hV
  have HW1 := Lib.hid hW1
  have HB1 := Lib.hid hb1
  have hvl : V.length ≤ 1000000 := by omega
  clear h3 h4 h5 hD hV hO h hown hW1 hb1 hm1
  go_enter Tryz.func17, Tryz.ntmps17
  go_upto_region 4 with (first
    | (go_at_call 40; refine HMK.out.mono ?_; rintro e w1 ⟨rfl, rfl⟩)
    | (go_at_call 39; refine HSF.out.mono ?_; rintro e w2 ⟨A2, n2, c2', Z', rfl, p1, p2, p3, p4, p5⟩; have P3 := Lib.hid p3; clear p3))
  have hp : (Z'.map Prod.snd).Perm V := (p1.map _).trans HV.out.perm
  have hs := sorted_perm p2 hp HV.out.strict
  have hl : Z'.length = V.length := by rw [← hs, List.length_map]
  have HC := Lib.hid (copy_any A2 n2 c2' Z' w2 p4 P3.out (by rw [P3.out, hl]; exact hvl))
  have HS := Lib.hid hs
  have HN2 := Lib.hid (show n2 = V.length by rw [P3.out, hl])
  have HB2 := Lib.hid (bthen HB1.out p5)
  clear p1 p2 p4 p5 hp hs hl
  go_wp2_with (go_at_call 42; refine HC.out.mono ?_; rintro e w3 ⟨v, Y, rfl, q1, q2, q3, q4⟩)
  rw [HN2.out] at q1
  obtain ⟨A3, c3, rfl⟩ := own_is q1
  have H1 := Lib.hid q1
  have H2 := Lib.hid (q2.trans HS.out)
  have H3 := Lib.hid q3
  have H4 := Lib.hid (bthen HB2.out q4)
  have hsz : w.heap.size ≤ w2.heap.size := HB2.out.size
  clear q1 q2 q3 q4
  go_ret
  exact ⟨A3, c3, Y, rfl, own_less H1.out hsz, H2.out, fun y hy => (H3.out y hy).less hsz, H4.out⟩
set_option maxRecDepth 100000 in
set_option maxHeartbeats 8000000 in
theorem copyx_any (h : Ix w B bx mb g L M V nn) : Calls Tryz.prog 16 #[.pointer (some ⟨bx, 0, none⟩)] w fun e w' => ∃ bx2 mb2, e = .returned (.pointer (some ⟨bx2, 0, none⟩)) ∧ w.heap.size ≤ bx2 ∧ w.heap.size ≤ mb2 ∧ Ix w' B bx2 mb2 g L M V nn ∧ Below w.heap.size w w' := by
  have HI := Lib.hid h
  obtain ⟨A, n, c, E, m, d, h3, h4, h5⟩ := h.blk
  have HCEL := Lib.hid (fun W (hW : Below w.heap.size w W) => show W.cell? ⟨bx, 0, none⟩ = some (.slice A n c) ∧ W.cell? ⟨bx, 1, none⟩ = some (.slice E m d) ∧ W.cell? ⟨bx, 2, none⟩ = some (.int .i64 g) ∧ W.cell? ⟨bx, 3, none⟩ = some (.map (some mb)) ∧ W.cell? ⟨bx, 4, none⟩ = some (.int .i64 (nn : Nat)) from by
    have hk := h3.grown (grown_none hW) (by simp)
    exact ⟨blk_get hk rfl, blk_get hk rfl, blk_get hk rfl, blk_get hk rfl, blk_get hk rfl⟩)
  obtain ⟨c0, c1, c2, c3, c4⟩ := HCEL.out w (Below.refl _ _)
  obtain ⟨D, Z, hown, hD, hV, hO⟩ := h.rows
  have HCL := Lib.hid (fun W (hW : Below w.heap.size w W) => AnyW.maps_Clone_owns (H := Value) Tryz.laysClone 9 RM mb nn D W (hown.kept (grown_none hW) (by simp)))
  have HD := Lib.hid hD
  have HV := Lib.hid hV
  have HO := Lib.hid hO
  have H4 := Lib.hid h4
  have H5 := Lib.hid h5
  clear h3 h4 h5 hD hV hO h hown
  go_enter Tryz.func16, Tryz.ntmps16
  go_upto_region 3 with fail
  go_region_held3 (fun W => (W.cell? ⟨bx, 0, none⟩ = some (.slice A n c) ∧ W.cell? ⟨bx, 1, none⟩ = some (.slice E m d) ∧ W.cell? ⟨bx, 2, none⟩ = some (.int .i64 g) ∧ W.cell? ⟨bx, 3, none⟩ = some (.map (some mb)) ∧ W.cell? ⟨bx, 4, none⟩ = some (.int .i64 (nn : Nat))) ∧ Below w.heap.size w W)
    (first
      | exact ⟨HCEL.out _ (below_drewN (Below.refl _ _) 1), below_drewN (Below.refl _ _) 1⟩
      | exact ⟨HCEL.out _ hz1, hz1⟩
      | exact ⟨HCEL.out _ (bpush hz1 _), bpush hz1 _⟩)
    (first
      | (go_at_call 38
         refine Calls.mono (HCL.out _ (below_drewN (Below.refl _ _) 1)) ?_
         rintro e x1 ⟨rfl, ho1, _, hb⟩
         have hz1 : Below w.heap.size w x1 := (below_drewN (Below.refl _ _) 1).trans (hb.mono (Nat.le_refl _))))
  have HX := Lib.hid ho1
  have HZ1 := Lib.hid hz1
  have HBK := Lib.hid hb
  obtain ⟨W3, hW3⟩ : ∃ W3, W3 = x1.alloc (.cells #[.slice A n c, .slice E m d, .int .i64 g, .map (some w.heap.size), .int .i64 (nn : Nat)] 73) := ⟨_, rfl⟩
  have hb3 : Below x1.heap.size x1 W3 := by rw [hW3]; exact bpush (Below.refl _ _) _
  have hbw : Below w.heap.size w W3 := bthen hz1 hb3
  have hk3 : Blk W3 x1.heap.size 73 #[.slice A n c, .slice E m d, .int .i64 g, .map (some w.heap.size), .int .i64 (nn : Nat)] := by rw [hW3]; exact Blk.new x1 73 _
  have hm3 : W3.ownsMap (H := Value) Tryz.prog 9 RM w.heap.size nn D := (show x1.ownsMap (H := Value) Tryz.prog 9 RM w.heap.size nn D from ho1).kept (grown_none hb3) (by simp)
  have hlt := HI.out.lts
  have hlx := HI.out.lx
  have hsz := hz1.size
  have HIX := Lib.hid (show Ix W3 B x1.heap.size w.heap.size g L M V nn from
    ⟨HI.out.sch, HI.out.gran, ⟨A, n, c, E, m, d, hk3, own_below H4.out hbw, own_below H5.out hbw⟩, ⟨D, Z, hm3, HD.out, HV.out, fun z hz => (HO.out z hz).keep hbw⟩, HI.out.ok, by omega, by omega⟩)
  have HB3 := Lib.hid hbw
  rw [← hW3]
  clear hW3 hb3 hbw hk3 hm3 ho1 hb
  go_wp2
  go_ret
  exact ⟨_, _, rfl, hsz, Nat.le_refl _, HIX.out, HB3.out⟩
end
end Go.Proofs.YtmmeekmiildliaaGreatDoor
