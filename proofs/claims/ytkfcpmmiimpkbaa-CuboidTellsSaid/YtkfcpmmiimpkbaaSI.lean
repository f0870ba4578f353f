/- stableCmpFunc, whole. -/
import Derived.Test.YtkfcpmmiimpkbaaSG
import Derived.Test.YtkfcpmmiimpkbaaSH
namespace Go.Proofs.Ytkfcpmmiimpkbaa
open Go.RowKit Go.Shelf
open Go.Sort hiding Below
set_option linter.unusedSimpArgs false
set_option linter.unusedVariables false
/-- Behind the first loop's rounds. -/
def Sta1 (w0 w : World) (blk off : Nat) (L : List (GZ w0)) (a : Nat) (W : World) : Prop :=
  ∃ (Ls : List (List (GZ w0))) (X : List (GZ w0)), SwSt 4 w0 w blk off (Ls.flatten ++ X) W ∧ Blks (fG w0) 20 Ls ∧ Ls.flatten.length = a ∧ SameF (fG w0) L (Ls.flatten ++ X)
/-- Ahead of each round of the great loop. -/
def Sta2 (w0 w : World) (blk off : Nat) (L : List (GZ w0)) (s : Nat) (W : World) : Prop := ∃ L', SwSt 4 w0 w blk off L' W ∧ BlkT (fG w0) s L' ∧ SameF (fG w0) L L'
/-- .. of the inner loop. -/
def Sta3 (w0 w : World) (blk off : Nat) (L : List (GZ w0)) (s a : Nat) (W : World) : Prop :=
  ∃ (Ms Ls : List (List (GZ w0))) (last : List (GZ w0)), SwSt 4 w0 w blk off (Ms.flatten ++ (Ls.flatten ++ last)) W ∧ Blks (fG w0) (2 * s) Ms ∧ Blks (fG w0) s Ls ∧ last.length < s ∧ SortedF (fG w0) last ∧ Ms.flatten.length = a ∧ SameF (fG w0) L (Ms.flatten ++ (Ls.flatten ++ last))
section
variable {w0 w W : World} {blk off n : Nat} {L : List (GZ w0)}
theorem Sta1.step {a : Nat} {Ls : List (List (GZ w0))} {X X1 X2 M : List (GZ w0)} (hX : X = X1 ++ X2) (hb : Blks (fG w0) 20 Ls) (ha : Ls.flatten.length = a) (hs : SameF (fG w0) L (Ls.flatten ++ X)) (h1 : X1.length = 20) (hM : SortedF (fG w0) M) (hM2 : SameF (fG w0) X1 M)
    (hw : SwSt 4 w0 w blk off (Ls.flatten ++ (M ++ X2)) W) : Sta1 w0 w blk off L (a + 20) W := by
  have hl := hM2.length
  refine ⟨Ls ++ [M], X2, by rw [flat_snoc, List.append_assoc]; exact hw, hb.snoc (by omega) hM, by rw [flat_snoc, List.length_append]; omega, ?_⟩
  subst hX
  rw [flat_snoc, List.append_assoc]
  exact hs.trans ((SameF.refl _).app (hM2.app (SameF.refl _)))
theorem Sta1.fin {a : Nat} {Ls : List (List (GZ w0))} {X M : List (GZ w0)} (hb : Blks (fG w0) 20 Ls) (hs : SameF (fG w0) L (Ls.flatten ++ X)) (h1 : X.length < 20) (hM : SortedF (fG w0) M) (hM2 : SameF (fG w0) X M)
    (hw : SwSt 4 w0 w blk off (Ls.flatten ++ (M ++ [])) W) : Sta2 w0 w blk off L 20 W := by
  have hl := hM2.length
  rw [List.append_nil] at hw
  exact ⟨_, hw, ⟨Ls, M, rfl, hb, by omega, hM⟩, hs.trans ((SameF.refl _).app hM2)⟩
theorem Sta3.start {s : Nat} (h : Sta2 w0 w blk off L s W) : Sta3 w0 w blk off L s 0 W := by
  obtain ⟨L', h1, ⟨Ls, last, rfl, h2, h3, h4⟩, h5⟩ := h
  exact ⟨[], Ls, last, h1, Blks.nil, h2, h3, h4, rfl, h5⟩
theorem Sta3.step {s a : Nat} {Ms Ls : List (List (GZ w0))} {l1 l2 last M : List (GZ w0)} (hm : Blks (fG w0) (2 * s) Ms) (hb : Blks (fG w0) s (l1 :: l2 :: Ls)) (h3 : last.length < s) (h4 : SortedF (fG w0) last) (ha : Ms.flatten.length = a) (hs : SameF (fG w0) L (Ms.flatten ++ ((l1 :: l2 :: Ls).flatten ++ last)))
    (hM : SortedF (fG w0) M) (hM2 : SameF (fG w0) (l1 ++ l2) M) (hw : SwSt 4 w0 w blk off (Ms.flatten ++ (M ++ (Ls.flatten ++ last))) W) : Sta3 w0 w blk off L s (a + 2 * s) W := by
  have hl := hM2.length
  have g1 := (hb l1 (by simp)).1
  have g2 := (hb l2 (by simp)).1
  rw [List.length_append] at hl
  refine ⟨Ms ++ [M], Ls, last, by rw [flat_snoc, List.append_assoc]; exact hw, hm.snoc (by omega) hM, fun l h => hb l (by simp [h]), h3, h4, by rw [flat_snoc, List.length_append]; omega, ?_⟩
  rw [flat_snoc, List.append_assoc]
  refine hs.trans ((SameF.refl _).app ?_)
  have e : (l1 :: l2 :: Ls).flatten ++ last = (l1 ++ l2) ++ (Ls.flatten ++ last) := by simp
  rw [e]
  exact hM2.app (SameF.refl _)
theorem Sta3.fin1 {s a : Nat} {Ms : List (List (GZ w0))} {l last M : List (GZ w0)} (hm : Blks (fG w0) (2 * s) Ms) (hl : l.length = s) (h3 : last.length < s) (hs : SameF (fG w0) L (Ms.flatten ++ (l ++ last)))
    (hM : SortedF (fG w0) M) (hM2 : SameF (fG w0) (l ++ last) M) (hw : SwSt 4 w0 w blk off (Ms.flatten ++ (M ++ [])) W) : Sta2 w0 w blk off L (s * 2) W := by
  have hll := hM2.length
  rw [List.length_append] at hll
  rw [List.append_nil] at hw
  exact ⟨_, hw, ⟨Ms, M, rfl, by rw [Nat.mul_comm]; exact hm, by omega, hM⟩, hs.trans ((SameF.refl _).app hM2)⟩
theorem Sta3.fin2 {s a n : Nat} (h : Sta3 w0 w blk off L s a W) (hn : L.length = n) (h1 : ¬ a + s < n) (h2 : n < a + 2 * s) : Sta2 w0 w blk off L (s * 2) W := by
  obtain ⟨Ms, Ls, last, hw, hm, hb, h3, h4, ha, hs⟩ := h
  have hl := hs.length
  rw [hn, List.length_append] at hl
  refine ⟨_, hw, ⟨Ms, Ls.flatten ++ last, rfl, by rw [Nat.mul_comm]; exact hm, by omega, ?_⟩, hs⟩
  exact BlkT.sorted ⟨Ls, last, rfl, hb, h3, h4⟩ (by omega)
end
set_option maxRecDepth 1000000 in
set_option maxHeartbeats 16000000 in
theorem stable_any (w0 w : World) (blk off cap n : Nat) (d0 : Array (GZ w0)) (R : RowK (encG w0) 4 w blk off d0) (hbw : Below w0.heap.size w0 w) (hb0 : w0.heap.size ≤ blk) (hs0 : d0.size = n) (hn : n ≤ 1000000) :
    Calls Try.prog 65 #[.slice (some ⟨blk, off, none⟩) n cap, .int .i64 n, .func (.func 50) #[] #[]] w fun e w' => e = .returned (.tuple #[]) ∧ ∃ L', SwSt 4 w0 w blk off L' w' ∧ SortedF (fG w0) L' ∧ SameF (fG w0) d0.toList L' := by
  have hC := cmp_lays w0 w blk off d0.size hbw hb0 R.hblk
  obtain ⟨L, hL⟩ : ∃ L, L = d0.toList := ⟨_, rfl⟩
  have hLn : L.length = n := by rw [hL, ← hs0]; simp
  have HL := Lib.hid hLn
  have H0 := Lib.hid (show Sta1 w0 w blk off L 0 w from ⟨[], L, ⟨d0, by rw [hL]; rfl, SWK.start R.hH⟩, Blks.nil, rfl, SameF.refl _⟩)
  have HI := Lib.hid (fun W a b az bz P X S => ins_any w0 w W blk off cap n a b az bz d0 R hbw hb0 hs0 hn P X S)
  have HS := Lib.hid (sym_any 4 rfl w0 w blk off cap n d0 R hC hs0 hn)
  rw [← hL]
  clear hL hC hs0 hLn
  go_enter Try.func65, Try.ntmps65
  go_wp2
  go_loopw [7, 8] (fun va vb wr => ∃ a : Nat, va = .int .i64 a ∧ vb = .int .i64 ((a : Int) + 20) ∧ a ≤ n ∧ Hid (Sta1 w0 w blk off L a wr)) (fun va _ _ => n - (intOf va).toNat)
  case atStart => exact ⟨0, rfl, rfl, Nat.zero_le _, H0⟩
  case round =>
    clear H0
    obtain ⟨a, rfl, rfl, han, HST⟩ := hrel
    by_cases hlt : a + 20 ≤ n
    · have hltz : (a : Int) + 20 ≤ (n : Int) := by omega
      obtain ⟨Ls, X, h1, h2, h3, h4⟩ := HST.out
      have hxl : a + X.length = n := by have := h4.length; rw [HL.out, List.length_append] at this; omega
      obtain ⟨X1, X2, hX, hX1⟩ : ∃ X1 X2, X = X1 ++ X2 ∧ X1.length = 20 := ⟨X.take 20, X.drop 20, (List.take_append_drop _ _).symm, by simp; omega⟩
      have h5 := HI.out wr a (a + 20) a ((a : Int) + 20) Ls.flatten X1 X2 (by rw [← hX]; exact h1) (by rw [← hX, List.length_append]; omega) h3 (by omega) rfl (by omega)
      have H5 := Lib.hid h5
      have H6 := Lib.hid (fun (M : List (GZ w0)) (W' : World) (m1 : SwSt 4 w0 w blk off (Ls.flatten ++ (M ++ X2)) W') (m2 : SortedF (fG w0) M) (m3 : SameF (fG w0) X1 M) => Sta1.step (L := L) hX h2 h3 h4 hX1 m2 m3 m1)
      clear h1 h2 h3 h4 hxl hX hX1 h5 HST
      go_wp2_with (go_at_call 78; refine H5.out.mono ?_; rintro e w' ⟨rfl, M, m1, m2, m3⟩)
      have H7 := Lib.hid (H6.out M _ m1 m2 m3)
      clear m1 m2 m3 H5 H6
      go_wp2
      go_roundw
      case rel => exact ⟨a + 20, by go_num, by go_num, hlt, H7⟩
      case measure => simp [intOf]; omega
    · have hltz : ¬ (a : Int) + 20 ≤ (n : Int) := by omega
      obtain ⟨Ls, X, h1, h2, h3, h4⟩ := HST.out
      have hxl : a + X.length = n := by have := h4.length; rw [HL.out, List.length_append] at this; omega
      have h5 := HI.out wr a n a n Ls.flatten X [] (by rw [List.append_nil]; exact h1) (by rw [List.append_nil, List.length_append]; omega) h3 (by omega) rfl rfl
      have H5 := Lib.hid h5
      have H6 := Lib.hid (fun (M : List (GZ w0)) (W' : World) (m1 : SwSt 4 w0 w blk off (Ls.flatten ++ (M ++ [])) W') (m2 : SortedF (fG w0) M) (m3 : SameF (fG w0) X M) => Sta1.fin (a := a) (L := L) h2 h4 (by omega) m2 m3 m1)
      clear h1 h2 h3 h4 hxl h5 HST
      go_wp2_with (go_at_call 78; refine H5.out.mono ?_; rintro e w' ⟨rfl, M, m1, m2, m3⟩)
      have H7 := Lib.hid (H6.out M _ m1 m2 m3)
      clear m1 m2 m3 H5 H6
      go_wp2
      obtain ⟨wo, hwo⟩ : ∃ wo : World, wo = w' := ⟨_, rfl⟩
      rw [← hwo] at H7 ⊢
      clear hwo
      go_loopw [6] (fun vs wr => ∃ s : Nat, vs = .int .i64 s ∧ 1 ≤ s ∧ s ≤ 2 * n + 20 ∧ Hid (Sta2 w0 w blk off L s wr)) (fun vs _ => n - (intOf vs).toNat)
      case atStart => exact ⟨20, rfl, by omega, by omega, H7⟩
      case round =>
        clear H7
        obtain ⟨s, rfl, hs1, hsn, HS2⟩ := hrel
        by_cases hsl : s < n
        · have hslz : (s : Int) < (n : Int) := by omega
          go_wp2_with fail
          obtain ⟨wp, hwp⟩ : ∃ wp : World, wp = wr := ⟨_, rfl⟩
          rw [← hwp] at HS2 ⊢
          clear hwp
          have H3 := Lib.hid (Sta3.start HS2.out)
          go_loopw [7, 8] (fun va vb wr => ∃ a : Nat, va = .int .i64 a ∧ vb = .int .i64 ((a : Int) + 2 * (s : Int)) ∧ a ≤ n ∧ Hid (Sta3 w0 w blk off L s a wr)) (fun va _ _ => n - (intOf va).toNat)
          case atStart => exact ⟨0, rfl, by first | rfl | go_num | simp, Nat.zero_le _, H3⟩
          case round =>
            clear H3 HS2
            obtain ⟨a', rfl, rfl, han', HST⟩ := hrel
            by_cases hlt2 : a' + 2 * s ≤ n
            · have hltz2 : (a' : Int) + 2 * (s : Int) ≤ (n : Int) := by omega
              obtain ⟨Ms, Ls', last, h1, h2, h3, h4, h5, h6, h7⟩ := HST.out
              have hxl : a' + (Ls'.flatten ++ last).length = n := by have := h7.length; rw [HL.out, List.length_append] at this; omega
              obtain ⟨l1, l2, Lt, rfl⟩ := two_front h3 h4 (by omega)
              have g1 := h3 l1 (by simp)
              have g2 := h3 l2 (by simp)
              have e0 : Ms.flatten ++ ((l1 :: l2 :: Lt).flatten ++ last) = Ms.flatten ++ (l1 ++ (l2 ++ (Lt.flatten ++ last))) := by simp
              have h8 := HS.out (l1.length + l2.length) wr a' (a' + 2 * s) (a' + s) a' ((a' : Int) + 2 * (s : Int)) ((a' : Int) + (s : Int)) Ms.flatten l1 l2 (Lt.flatten ++ last) (Nat.le_refl _) (by rw [← e0]; exact h1) (by rw [← e0, List.length_append]; omega) h6 (by omega) (by omega) (by omega) (by omega) g1.2 g2.2 rfl (by omega) (by omega)
              have H8 := Lib.hid h8
              have H9 := Lib.hid (fun (M : List (GZ w0)) (W' : World) (m1 : SwSt 4 w0 w blk off (Ms.flatten ++ (M ++ (Lt.flatten ++ last))) W') (m2 : SortedF (fG w0) M) (m3 : SameF (fG w0) (l1 ++ l2) M) => Sta3.step (L := L) h2 h3 h4 h5 h6 h7 m2 m3 m1)
              clear h1 h2 h3 h4 h5 h6 h7 hxl g1 g2 e0 h8 HST
              go_wp2_with (go_at_call 79; refine H8.out.mono ?_; rintro e w' ⟨rfl, M, m1, m2, m3⟩)
              have H7 := Lib.hid (H9.out M _ m1 m2 m3)
              clear m1 m2 m3 H8 H9
              go_wp2
              go_roundw
              case rel => exact ⟨a' + 2 * s, by go_num, by go_num, hlt2, H7⟩
              case measure => simp [intOf]; omega
            · have hltz2 : ¬ (a' : Int) + 2 * (s : Int) ≤ (n : Int) := by omega
              by_cases hms : a' + s < n
              · have hmsz : (a' : Int) + (s : Int) < (n : Int) := by omega
                obtain ⟨Ms, Ls', last, h1, h2, h3, h4, h5, h6, h7⟩ := HST.out
                have hxl : a' + (Ls'.flatten ++ last).length = n := by have := h7.length; rw [HL.out, List.length_append] at this; omega
                rcases one_front h3 (show (Ls'.flatten ++ last).length < 2 * s by omega) with rfl | ⟨l, rfl⟩
                · exfalso; simp at hxl; omega
                · have g1 := h3 l (by simp)
                  have e0 : Ms.flatten ++ ([l].flatten ++ last) = Ms.flatten ++ (l ++ last) := by simp
                  rw [e0] at h1 h7
                  have h8 := HS.out (l.length + last.length) wr a' n (a' + s) a' n ((a' : Int) + (s : Int)) Ms.flatten l last [] (Nat.le_refl _) (by rw [List.append_nil]; exact h1) (by rw [List.append_nil, ← HL.out, h7.length]) h6 (by omega) (by simp at hxl; omega) (by omega) (by simp at hxl; omega) g1.2 h5 rfl (by omega) rfl
                  have H8 := Lib.hid h8
                  have H9 := Lib.hid (fun (M : List (GZ w0)) (W' : World) (m1 : SwSt 4 w0 w blk off (Ms.flatten ++ (M ++ [])) W') (m2 : SortedF (fG w0) M) (m3 : SameF (fG w0) (l ++ last) M) => Sta3.fin1 (a := a') (L := L) h2 g1.1 h4 h7 m2 m3 m1)
                  clear h1 h2 h3 h4 h5 h6 h7 hxl g1 e0 h8 HST
                  go_wp2_with (go_at_call 79; refine H8.out.mono ?_; rintro e w' ⟨rfl, M, m1, m2, m3⟩)
                  have H7 := Lib.hid (H9.out M _ m1 m2 m3)
                  clear m1 m2 m3 H8 H9
                  go_wp2
                  go_roundw
                  case rel => exact ⟨s * 2, by go_num, by omega, by omega, H7⟩
                  case measure => simp [intOf]; omega
              · have hmsz : ¬ (a' : Int) + (s : Int) < (n : Int) := by omega
                have H7 := Lib.hid (HST.out.fin2 HL.out hms (by omega))
                clear HST
                go_wp2
                go_roundw
                case rel => exact ⟨s * 2, by go_num, by omega, by omega, H7⟩
                case measure => simp [intOf]; omega
        · have hslz : ¬ (s : Int) < (n : Int) := by omega
          go_wp2
          go_end0
          obtain ⟨L', h1, h2, h3⟩ := HS2.out
          exact ⟨rfl, L', h1, h2.sorted (by have := h3.length; rw [HL.out] at this; omega), h3⟩
end Go.Proofs.Ytkfcpmmiimpkbaa
