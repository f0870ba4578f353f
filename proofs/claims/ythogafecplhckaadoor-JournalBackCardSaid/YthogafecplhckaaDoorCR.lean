/- Whether a block is whole; the block that bytes begin with. -/
import Derived.Test.YthogafecplhckaaDoorCQ
import Derived.Test.YthogafecplhckaaDoorCI
namespace Go.Proofs.YthogafecplhckaaDoor
open Go.RowKit
set_option linter.unusedSimpArgs false
set_option linter.unusedVariables false
theorem sumB_at {s k : Nat} (hs : s < 4294967296) (hk : k < 4) : ∃ y, y < 256 ∧ (sumB s)[k]? = some ((y : Nat) : Int) ∧ s / 256 ^ (4 - (k + 1)) = s / 256 ^ (4 - k) * 256 + y := by
  rcases (show k = 0 ∨ k = 1 ∨ k = 2 ∨ k = 3 by omega) with rfl | rfl | rfl | rfl
  · exact ⟨s / 16777216 % 256, by omega, rfl, by show s / 256 ^ 3 = s / 256 ^ 4 * 256 + _; omega⟩
  · exact ⟨s / 65536 % 256, by omega, rfl, by show s / 256 ^ 2 = s / 256 ^ 3 * 256 + _; omega⟩
  · exact ⟨s / 256 % 256, by omega, rfl, by show s / 256 ^ 1 = s / 256 ^ 2 * 256 + _; omega⟩
  · exact ⟨s / 1 % 256, by omega, rfl, by show s / 256 ^ 0 = s / 256 ^ 1 * 256 + _; omega⟩
set_option maxRecDepth 100000 in
set_option maxHeartbeats 4000000 in
theorem whole_yes (b off n c : Nat) (body : List Int) (w : World) (hT : Tab w) (hA : Row w (some ⟨b, off, none⟩) ((body ++ sumB (sumN body)).map (Value.int .u8))) (hz : n = (body ++ sumB (sumN body)).length) (hnc : n ≤ c) (hn : n ≤ 1000000) (hb : bytes body) (hpos : 0 < body.length) :
    Calls Tryd.prog 57 #[.slice (some ⟨b, off, none⟩) n c] w fun e w' => e = .returned (.bool true) ∧ w = w' := by
  obtain ⟨m, hm⟩ : ∃ m, m = body.length := ⟨_, rfl⟩
  obtain ⟨s, hs⟩ : ∃ s, s = sumN body := ⟨_, rfl⟩
  have hs9 : s < 4294967296 := by rw [hs]; unfold sumN; omega
  have hnm : n = m + 4 := by rw [hz, List.length_append, ← hm]; rfl
  have hpart := hA.part m
  rw [← hs, hm, List.take_append_of_le_length (Nat.le_refl _), List.take_length, List.drop_append_of_le_length (Nat.le_refl _), List.drop_length, List.nil_append, ← hm] at hpart
  obtain ⟨hp1, hp2⟩ := hpart
  have HP1 := Lib.hid hp1
  have HP2 := Lib.hid hp2
  have HT := Lib.hid hT
  have HBY := Lib.hid hb
  have HM := Lib.hid hm
  have HS := Lib.hid (show sumI body = (s : Int) by rw [hs]; rfl)
  rw [← hm] at hpos
  clear hA hz hT hb hm hs hp1 hp2
  subst hnm
  have hw : IntKind.i64.wrap (((m + 4 : Nat) : Int) - 4) = (m : Int) := by rw [IntWalk.i64_in _ (by omega)]; omega
  have hw2 : ((m + 4 : Nat) : Int) - 4 = (m : Int) := by omega
  have hcm : ¬ c = m := by omega
  have hcm2 : ¬ m = c := by omega
  go_enter Tryd.func57, Tryd.ntmps57
  go_wp2_with fail
  go_loop [4, 14] (fun a i => ∃ (k t : Nat), k ≤ 4 ∧ t < 4294967296 ∧ i = .int .i64 k ∧ a = .int .u32 (t : Int) ∧ Hid (t = s / 256 ^ (4 - k))) (fun _ i => 4 - (intOf i).toNat)
  case atStart => exact ⟨0, 0, by omega, by omega, rfl, rfl, Lib.hid (by show 0 = s / 256 ^ 4; omega)⟩
  case round =>
    obtain ⟨k, t, hk, ht, rfl, rfl, HTT⟩ := hrel
    by_cases hlt : k < 4
    · obtain ⟨y, hy9, hy, hst⟩ := sumB_at hs9 hlt
      have hc : w.cell? ⟨b, off + m + k, none⟩ = some (.int .u8 (y : Int)) := by
        rcases HP2.out with h | ⟨b', off', he, hcc⟩
        · simp [sumB] at h
        · cases he
          exact hcc k _ (by rw [List.getElem?_map, hy]; rfl)
      have hbig : t * 256 + y < 4294967296 := by
        have h := HTT.out
        have h2 : s / 256 ^ (4 - (k + 1)) ≤ s := Nat.div_le_self _ _
        rw [hst, ← h] at h2; omega
      obtain ⟨t2, ht2⟩ : ∃ t2, t2 = t * 256 + y := ⟨_, rfl⟩
      have e1 : bits .or .u32 ((t : Int) * 256) (y : Int) = (t2 : Int) := by
        have h := u32_or_nat (t * 256) y (by omega) (by omega)
        have h2 : (((t * 256 : Nat) : Int)) = (t : Int) * 256 := by omega
        rw [h2] at h
        rw [h, nat_join 8 (t * 256) y (by omega) (by omega), ht2]
      have HT2 := Lib.hid (show t2 = s / 256 ^ (4 - (k + 1)) by rw [ht2, hst, HTT.out])
      have ht29 : t2 < 4294967296 := by omega
      have ht9 : (t : Int) * 256 < 4294967296 := by omega
      have hk1 : (k : Int) < 4 := by omega
      have hk0 : (0 : Int) ≤ (k : Int) := by omega
      clear hy hst ht2 hbig
      go_wp2_with fail
      go_round
      case rel => exact ⟨k + 1, t2, by omega, ht29, by go_num, rfl, HT2⟩
      case measure => simp [intOf]; omega
    · have hk1 : ¬ (k : Int) < 4 := by omega
      have hts : t = s := by rw [HTT.out, show 4 - k = 0 by omega]; simp
      subst hts
      clear HTT
      go_wp2_with fail
      refine (sum_any (some ⟨b, off, none⟩) m c body _ HT.out HP1.out HM.out (by omega) HBY.out).mono ?_
      rintro e w' ⟨rfl, rfl⟩
      rw [HS.out]
      go_wp2_with fail
      go_ret
      exact ⟨rfl, rfl⟩
def FirstPost (w : World) (xs : List Int) (L : Nat) (e : Ending) (w' : World) : Prop :=
  ∃ A c, e = .returned (.tuple #[.slice A xs.length c, .int .i64 L, .int .i64 0]) ∧ w'.ownsRow w.heap.size 5 1 (.slice A xs.length c) xs.length (xs.map (Value.int .u8)) ∧ Row w' A (xs.map (Value.int .u8)) ∧ Below w.heap.size w w'
theorem enc_len (v : Int) : (encV v).length = groupsZ (foldZ v).toNat := by rw [encV, encI_length]
theorem sumB_bytes (s : Nat) : bytes (sumB s) := by
  intro x hx
  simp [sumB] at hx
  omega
set_option maxRecDepth 100000 in
set_option maxHeartbeats 4000000 in
theorem first_good (A : Option Addr) (n c : Nat) (xs rest : List Int) (w : World) (hT : Tab w) (hA : Row w A ((blockL xs ++ rest).map (Value.int .u8))) (hz : n = (blockL xs ++ rest).length) (hnc : n ≤ c) (hn : n ≤ 1000000) (hx : xs.length ≤ 100000) (hb : bytes xs) (hr : bytes rest) :
    Calls Tryd.prog 30 #[.slice A n c] w (FirstPost w xs (blockL xs).length) := by
  obtain ⟨E, hE⟩ : ∃ E, E = encV (xs.length : Int) := ⟨_, rfl⟩
  obtain ⟨g, hg⟩ : ∃ g, g = E.length := ⟨_, rfl⟩
  have hg1 : 1 ≤ g ∧ g ≤ 10 := by rw [hg, hE]; exact enc_bd _
  obtain ⟨hg1, hg2⟩ := hg1
  obtain ⟨x, hxl⟩ : ∃ x, x = xs.length := ⟨_, rfl⟩
  have hL : (blockL xs).length = g + x + 4 := by rw [blockL, List.length_append, headL, List.length_append, ← hE, ← hg, ← hxl]; rfl
  have hnn : g + x + 4 ≤ n := by rw [hz, List.length_append, hL]; omega
  obtain ⟨b, off, rfl⟩ := hA.head (by rw [← hz]; omega)
  obtain ⟨h, hh⟩ : ∃ h, h = min n 10 := ⟨_, rfl⟩
  have hh1 : g ≤ h ∧ h ≤ n ∧ h ≤ 10 := by omega
  obtain ⟨hh1, hh2, hh3⟩ := hh1
  have hby : bytes (blockL xs ++ rest) := by
    intro z hz
    rcases List.mem_append.1 hz with hz | hz
    · rcases List.mem_append.1 hz with hz | hz
      · exact head_bytes hb z hz
      · exact sumB_bytes _ z hz
    · exact hr z hz
  obtain ⟨H, hH⟩ : ∃ H, H = (blockL xs ++ rest).take h := ⟨_, rfl⟩
  have HRH := Lib.hid (show Row w (some ⟨b, off, none⟩) (H.map (Value.int .u8)) by rw [hH]; exact (hA.part h).1)
  have HLH := Lib.hid (show h = H.length by rw [hH, List.length_take, ← hz]; omega)
  have HNP := Lib.hid (show numP H = ((x : Int), g) by
    have e1 : blockL xs ++ rest = E ++ (xs ++ sumB (sumN (headL xs)) ++ rest) := by rw [blockL, hE]; simp [headL]
    rw [hH, e1, List.take_append, List.take_of_length_le (by omega), hE, hxl, numP_enc (by omega) (by omega), hg, hE, enc_len])
  have HBH := Lib.hid (show bytes H from fun z hz => hby z (by rw [hH] at hz; exact List.mem_of_mem_take hz))
  have HRB := Lib.hid (show Row w (some ⟨b, off, none⟩) ((headL xs ++ sumB (sumN (headL xs))).map (Value.int .u8)) by
    have h1 := (hA.part (g + x + 4)).1
    rw [List.take_append_of_le_length (by omega), List.take_of_length_le (by omega)] at h1
    exact h1)
  have HRX := Lib.hid (show Row w (some ⟨b, off + g, none⟩) (xs.map (Value.int .u8)) by
    have h1 := (HRB.out.part g).2
    rw [headL, List.append_assoc, ← hE, List.drop_append_of_le_length (by omega), List.drop_of_length_le (by omega), List.nil_append] at h1
    have h2 := (h1.part x).1
    rw [List.take_append_of_le_length (by omega), List.take_of_length_le (by omega)] at h2
    exact h2)
  have HBL := Lib.hid (show g + x + 4 = (headL xs ++ sumB (sumN (headL xs))).length from hL.symm)
  have HT := Lib.hid hT
  have HBX := Lib.hid hb
  have HXL := Lib.hid hxl
  have HHB := Lib.hid (show 0 < (headL xs).length by rw [headL, List.length_append, ← hE]; omega)
  rw [← hxl] at hx
  rw [hL]
  have hmin : min (n : Int) 10 = (h : Int) := by omega
  have hx9 : x ≤ 100000 := hx
  clear hE hg hA hz hT hb hr hby hH hL hh hx hxl
  have hd3 : decide ((n : Int) < (g : Int) + (x : Int) + 4) = false := by simp; omega
  have hd1 : (h : Int) - ((h - g : Nat) : Int) = (g : Int) := by omega
  have hw1 : IntKind.i64.wrap ((h : Int) - ((h - g : Nat) : Int)) = (g : Int) := by rw [IntWalk.i64_in _ (by omega)]; omega
  have hw2 : IntKind.i64.wrap ((g : Int) + (x : Int)) = (g : Int) + (x : Int) := IntWalk.i64_in _ (by omega)
  have hw3 : IntKind.i64.wrap ((g : Int) + (x : Int) + 4) = (g : Int) + (x : Int) + 4 := IntWalk.i64_in _ (by omega)
  go_enter Tryd.func30, Tryd.ntmps30
  go_wp2_with fail
  refine (open_any (some ⟨b, off, none⟩) h c H _ HRH.out (by omega) HLH.out (by omega)).mono ?_
  rintro e w1 ⟨rb, rfl, hrb, hRd, hB1⟩
  have HRd := Lib.hid hRd
  have HB1 := Lib.hid hB1
  clear hRd hB1
  go_wp2_with fail
  refine (rint_good rb H 0 16777216 _ HRd.out HBH.out (x : Int) g HNP.out (by omega) (by omega) (by omega)).mono ?_
  rintro e w2 ⟨rfl, hRd2, hgr⟩
  have HRd2 := Lib.hid hRd2
  have HB2 := Lib.hid (zgrown_below hgr HB1.out hrb)
  clear hRd2 hgr
  go_wp2_with fail
  refine (left_any rb (H.drop g) _ HRd2.out).mono ?_
  rintro e w3 ⟨rfl, rfl⟩
  rw [List.length_drop, ← HLH.out]
  go_wp2_with fail
  refine (whole_yes b off (g + x + 4) c (headL xs) _ (HT.out.keep HB2.out) (HRB.out.keep (Nat.le_refl _) HB2.out) HBL.out (by omega) (by omega) (head_bytes HBX.out) HHB.out).mono ?_
  rintro e w3 ⟨rfl, rfl⟩
  obtain ⟨i0, hi0, hz0, hz1, hz2⟩ := info_parts Tryd.info5
  have hrx := HRX.out.keep (Nat.le_refl _) HB2.out
  have hsz := HB2.out.size
  have HRX2 := Lib.hid hrx
  have HSZ := Lib.hid hsz
  clear hrx hsz
  have hcg1 : ¬ c = g := by omega
  have hcg2 : ¬ g = c := by omega
  have hcg3 : c - g ≠ 0 := by omega
  have hcg4 : ¬ c ≤ g := by omega
  go_wp2_with (at_builtin; refine wpList_append_own _ rfl _ _ 25 rfl w.heap.size 5 i0 (.int .u8 0) 1 1 Tryd.underlying25 hi0 hz0 hz1 hz2 rfl (by decide) (.slice none 0 0) 0 [] rfl (World.ownsRow_nil _ _ _ _) ⟨b, off + g, none⟩ (g + x - g) (c - g) (xs.map (Value.int .u8)) rfl ?h1 ?h2 ?h3 ?h4 ?h5 ?h6 ?_)
  case h1 => rw [List.length_map, ← HXL.out, Nat.mul_one]; omega
  case h2 => exact HRX2.out.adds _ rfl
  case h3 => intro u hu; simp only [List.mem_map] at hu; obtain ⟨x, _, rfl⟩ := hu; rfl
  case h4 => unfold maxLen; omega
  case h5 => omega
  case h6 => exact HSZ.out
  intro v4 w4 hown4 hgrow4 _
  have hB4 : Below w.heap.size w w4 := HB2.out.grown hgrow4 HSZ.out (fun k hk => by cases hk)
  obtain ⟨A4, c4, rfl, hr4, _, _⟩ := bytes_slice hown4
  have H4 := Lib.hid (And.intro hown4 (And.intro hr4 hB4))
  clear hown4 hr4 hB4 hgrow4
  go_wp2_with fail
  go_ret3
  exact ⟨A4, c4, by rw [← HXL.out]; rfl, by rw [← HXL.out]; exact H4.out.1, H4.out.2.1, H4.out.2.2⟩
end Go.Proofs.YthogafecplhckaaDoor
