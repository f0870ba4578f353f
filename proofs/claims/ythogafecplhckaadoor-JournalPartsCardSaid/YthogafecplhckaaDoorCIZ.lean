/- CI Whether a block is whole; the block that bytes begin with. The live question. A block tells its bytes. Whether bytes end with their sum; the block that any bytes begin with. -/
import Derived.Test.YthogafecplhckaaDoorGZ
import Derived.Test.YthogafecplhckaaDoorCQ
import Derived.Test.YthogafecplhckaaDoorGY
import Derived.Lib.SlBytesConst
import Derived.Deep.RegionHeld3
import Derived.StillTactics
import Derived.OwnWalk
namespace Go.Proofs.YthogafecplhckaaDoor
open Go.RowKit
set_option linter.unusedSimpArgs false
theorem left_any (rb : Nat) (bs : List Int) (w : World) (hR : Rd w rb bs) : Calls Tryd.prog 56 #[.pointer (some ⟨rb, 0, none⟩)] w fun e w' => e = .returned (.int .i64 bs.length) ∧ w = w' := by
  obtain ⟨A, n, c, h1, h2, h3, h4, h5, h6⟩ := hR
  rw [← h2]
  clear h2 h5 h6
  go_enter Tryd.func56, Tryd.ntmps56
  go_wp2
  go_ret
  exact ⟨rfl, rfl⟩
theorem left_nil (w : World) : Calls Tryd.prog 56 #[.pointer none] w fun e w' => e = .returned (.int .i64 0) ∧ w = w' := by
  go_enter Tryd.func56, Tryd.ntmps56
  go_wp2
  go_ret
  exact ⟨rfl, rfl⟩
end Go.Proofs.YthogafecplhckaaDoor
namespace Go.Proofs.YthogafecplhckaaDoor
open Go.RowKit
set_option linter.unusedSimpArgs false
set_option linter.unusedVariables false
theorem sumB_at {s k : Nat} (hs : s < 4294967296) (hk : k < 4) : ∃ y, y < 256 ∧ (sumB s)[k]? = some ((y : Nat) : Int) ∧ s / 256 ^ (4 - (k + 1)) = s / 256 ^ (4 - k) * 256 + y := by
  rcases (show k = 0 ∨ k = 1 ∨ k = 2 ∨ k = 3 by omega) with rfl | rfl | rfl | rfl
  · exact ⟨s / 16777216 % 256, by omega, rfl, by show s / 256 ^ 3 = s / 256 ^ 4 * 256 + _; omega⟩
  · exact ⟨s / 65536 % 256, by omega, rfl, by show s / 256 ^ 2 = s / 256 ^ 3 * 256 + _; omega⟩
  · exact ⟨s / 256 % 256, by omega, rfl, by show s / 256 ^ 1 = s / 256 ^ 2 * 256 + _; omega⟩
  · exact ⟨s / 1 % 256, by omega, rfl, by show s / 256 ^ 0 = s / 256 ^ 1 * 256 + _; omega⟩
set_option maxRecDepth 100000 in
set_option maxHeartbeats 4000000 in
theorem whole_yes (b off n c : Nat) (body : List Int) (w : World) (hT : Tab w) (hA : Row w (some ⟨b, off, none⟩) ((body ++ sumB (sumN body)).map (Value.int .u8))) (hz : n = (body ++ sumB (sumN body)).length) (hnc : n ≤ c) (hn : n ≤ 1000000) (hb : bytes body) (hpos : 0 < body.length) :
    Calls Tryd.prog 57 #[.slice (some ⟨b, off, none⟩) n c] w fun e w' => e = .returned (.bool true) ∧ w = w' := by
  obtain ⟨m, hm⟩ : ∃ m, m = body.length := ⟨_, rfl⟩
  obtain ⟨s, hs⟩ : ∃ s, s = sumN body := ⟨_, rfl⟩
  have hs9 : s < 4294967296 := by rw [hs]; unfold sumN; omega
  have hnm : n = m + 4 := by rw [hz, List.length_append, ← hm]; rfl
  have hpart := hA.part m
  rw [← hs, hm, List.take_append_of_le_length (Nat.le_refl _), List.take_length, List.drop_append_of_le_length (Nat.le_refl _), List.drop_length, List.nil_append, ← hm] at hpart
  obtain ⟨hp1, hp2⟩ := hpart
  have HP1 := Lib.hid hp1
  have HP2 := Lib.hid hp2
  have HT := Lib.hid hT
  have HBY := Lib.hid hb
  have HM := Lib.hid hm
  have HS := Lib.hid (show sumI body = (s : Int) by rw [hs]; rfl)
  rw [← hm] at hpos
  clear hA hz hT hb hm hs hp1 hp2
  subst hnm
  have hw : IntKind.i64.wrap (((m + 4 : Nat) : Int) - 4) = (m : Int) := by rw [IntWalk.i64_in _ (by omega)]; omega
  have hw2 : ((m + 4 : Nat) : Int) - 4 = (m : Int) := by omega
  have hcm : ¬ c = m := by omega
  have hcm2 : ¬ m = c := by omega
  go_enter Tryd.func57, Tryd.ntmps57
  go_wp2_with fail
  go_loop [4, 14] (fun a i => ∃ (k t : Nat), k ≤ 4 ∧ t < 4294967296 ∧ i = .int .i64 k ∧ a = .int .u32 (t : Int) ∧ Hid (t = s / 256 ^ (4 - k))) (fun _ i => 4 - (intOf i).toNat)
  case atStart => exact ⟨0, 0, by omega, by omega, rfl, rfl, Lib.hid (by show 0 = s / 256 ^ 4; omega)⟩
  case round =>
    obtain ⟨k, t, hk, ht, rfl, rfl, HTT⟩ := hrel
    by_cases hlt : k < 4
    · obtain ⟨y, hy9, hy, hst⟩ := sumB_at hs9 hlt
      have hc : w.cell? ⟨b, off + m + k, none⟩ = some (.int .u8 (y : Int)) := by
        rcases HP2.out with h | ⟨b', off', he, hcc⟩
        · simp [sumB] at h
        · cases he
          exact hcc k _ (by rw [List.getElem?_map, hy]; rfl)
      have hbig : t * 256 + y < 4294967296 := by
        have h := HTT.out
        have h2 : s / 256 ^ (4 - (k + 1)) ≤ s := Nat.div_le_self _ _
        rw [hst, ← h] at h2; omega
      obtain ⟨t2, ht2⟩ : ∃ t2, t2 = t * 256 + y := ⟨_, rfl⟩
      have e1 : bits .or .u32 ((t : Int) * 256) (y : Int) = (t2 : Int) := by
        have h := u32_or_nat (t * 256) y (by omega) (by omega)
        have h2 : (((t * 256 : Nat) : Int)) = (t : Int) * 256 := by omega
        rw [h2] at h
        rw [h, nat_join 8 (t * 256) y (by omega) (by omega), ht2]
      have HT2 := Lib.hid (show t2 = s / 256 ^ (4 - (k + 1)) by rw [ht2, hst, HTT.out])
      have ht29 : t2 < 4294967296 := by omega
      have ht9 : (t : Int) * 256 < 4294967296 := by omega
      have hk1 : (k : Int) < 4 := by omega
      have hk0 : (0 : Int) ≤ (k : Int) := by omega
      clear hy hst ht2 hbig
      go_wp2_with fail
      go_round
      case rel => exact ⟨k + 1, t2, by omega, ht29, by go_num, rfl, HT2⟩
      case measure => simp [intOf]; omega
    · have hk1 : ¬ (k : Int) < 4 := by omega
      have hts : t = s := by rw [HTT.out, show 4 - k = 0 by omega]; simp
      subst hts
      clear HTT
      go_wp2_with fail
      refine (sum_any (some ⟨b, off, none⟩) m c body _ HT.out HP1.out HM.out (by omega) HBY.out).mono ?_
      rintro e w' ⟨rfl, rfl⟩
      rw [HS.out]
      go_wp2_with fail
      go_ret
      exact ⟨rfl, rfl⟩
def FirstPost (w : World) (xs : List Int) (L : Nat) (e : Ending) (w' : World) : Prop :=
  ∃ A c, e = .returned (.tuple #[.slice A xs.length c, .int .i64 L, .int .i64 0]) ∧ w'.ownsRow w.heap.size 5 1 (.slice A xs.length c) xs.length (xs.map (Value.int .u8)) ∧ Row w' A (xs.map (Value.int .u8)) ∧ Below w.heap.size w w'
theorem enc_len (v : Int) : (encV v).length = groupsZ (foldZ v).toNat := by rw [encV, encI_length]
theorem sumB_bytes (s : Nat) : bytes (sumB s) := by
  intro x hx
  simp [sumB] at hx
  omega
set_option maxRecDepth 100000 in
set_option maxHeartbeats 4000000 in
theorem first_good (A : Option Addr) (n c : Nat) (xs rest : List Int) (w : World) (hT : Tab w) (hA : Row w A ((blockL xs ++ rest).map (Value.int .u8))) (hz : n = (blockL xs ++ rest).length) (hnc : n ≤ c) (hn : n ≤ 1000000) (hx : xs.length ≤ 100000) (hb : bytes xs) (hr : bytes rest) :
    Calls Tryd.prog 30 #[.slice A n c] w (FirstPost w xs (blockL xs).length) := by
  obtain ⟨E, hE⟩ : ∃ E, E = encV (xs.length : Int) := ⟨_, rfl⟩
  obtain ⟨g, hg⟩ : ∃ g, g = E.length := ⟨_, rfl⟩
  have hg1 : 1 ≤ g ∧ g ≤ 10 := by rw [hg, hE]; exact enc_bd _
  obtain ⟨hg1, hg2⟩ := hg1
  obtain ⟨x, hxl⟩ : ∃ x, x = xs.length := ⟨_, rfl⟩
  have hL : (blockL xs).length = g + x + 4 := by rw [blockL, List.length_append, headL, List.length_append, ← hE, ← hg, ← hxl]; rfl
  have hnn : g + x + 4 ≤ n := by rw [hz, List.length_append, hL]; omega
  obtain ⟨b, off, rfl⟩ := hA.head (by rw [← hz]; omega)
  obtain ⟨h, hh⟩ : ∃ h, h = min n 10 := ⟨_, rfl⟩
  have hh1 : g ≤ h ∧ h ≤ n ∧ h ≤ 10 := by omega
  obtain ⟨hh1, hh2, hh3⟩ := hh1
  have hby : bytes (blockL xs ++ rest) := by
    intro z hz
    rcases List.mem_append.1 hz with hz | hz
    · rcases List.mem_append.1 hz with hz | hz
      · exact head_bytes hb z hz
      · exact sumB_bytes _ z hz
    · exact hr z hz
  obtain ⟨H, hH⟩ : ∃ H, H = (blockL xs ++ rest).take h := ⟨_, rfl⟩
  have HRH := Lib.hid (show Row w (some ⟨b, off, none⟩) (H.map (Value.int .u8)) by rw [hH]; exact (hA.part h).1)
  have HLH := Lib.hid (show h = H.length by rw [hH, List.length_take, ← hz]; omega)
  have HNP := Lib.hid (show numP H = ((x : Int), g) by
    have e1 : blockL xs ++ rest = E ++ (xs ++ sumB (sumN (headL xs)) ++ rest) := by rw [blockL, hE]; simp [headL]
    rw [hH, e1, List.take_append, List.take_of_length_le (by omega), hE, hxl, numP_enc (by omega) (by omega), hg, hE, enc_len])
  have HBH := Lib.hid (show bytes H from fun z hz => hby z (by rw [hH] at hz; exact List.mem_of_mem_take hz))
  have HRB := Lib.hid (show Row w (some ⟨b, off, none⟩) ((headL xs ++ sumB (sumN (headL xs))).map (Value.int .u8)) by
    have h1 := (hA.part (g + x + 4)).1
    rw [List.take_append_of_le_length (by omega), List.take_of_length_le (by omega)] at h1
    exact h1)
  have HRX := Lib.hid (show Row w (some ⟨b, off + g, none⟩) (xs.map (Value.int .u8)) by
    have h1 := (HRB.out.part g).2
    rw [headL, List.append_assoc, ← hE, List.drop_append_of_le_length (by omega), List.drop_of_length_le (by omega), List.nil_append] at h1
    have h2 := (h1.part x).1
    rw [List.take_append_of_le_length (by omega), List.take_of_length_le (by omega)] at h2
    exact h2)
  have HBL := Lib.hid (show g + x + 4 = (headL xs ++ sumB (sumN (headL xs))).length from hL.symm)
  have HT := Lib.hid hT
  have HBX := Lib.hid hb
  have HXL := Lib.hid hxl
  have HHB := Lib.hid (show 0 < (headL xs).length by rw [headL, List.length_append, ← hE]; omega)
  rw [← hxl] at hx
  rw [hL]
  have hmin : min (n : Int) 10 = (h : Int) := by omega
  have hx9 : x ≤ 100000 := hx
  clear hE hg hA hz hT hb hr hby hH hL hh hx hxl
  have hd3 : decide ((n : Int) < (g : Int) + (x : Int) + 4) = false := by simp; omega
  have hd1 : (h : Int) - ((h - g : Nat) : Int) = (g : Int) := by omega
  have hw1 : IntKind.i64.wrap ((h : Int) - ((h - g : Nat) : Int)) = (g : Int) := by rw [IntWalk.i64_in _ (by omega)]; omega
  have hw2 : IntKind.i64.wrap ((g : Int) + (x : Int)) = (g : Int) + (x : Int) := IntWalk.i64_in _ (by omega)
  have hw3 : IntKind.i64.wrap ((g : Int) + (x : Int) + 4) = (g : Int) + (x : Int) + 4 := IntWalk.i64_in _ (by omega)
  go_enter Tryd.func30, Tryd.ntmps30
  go_wp2_with fail
  refine (open_any (some ⟨b, off, none⟩) h c H _ HRH.out (by omega) HLH.out (by omega)).mono ?_
  rintro e w1 ⟨rb, rfl, hrb, hRd, hB1⟩
  have HRd := Lib.hid hRd
  have HB1 := Lib.hid hB1
  clear hRd hB1
  go_wp2_with fail
  refine (rint_good rb H 0 16777216 _ HRd.out HBH.out (x : Int) g HNP.out (by omega) (by omega) (by omega)).mono ?_
  rintro e w2 ⟨rfl, hRd2, hgr⟩
  have HRd2 := Lib.hid hRd2
  have HB2 := Lib.hid (zgrown_below hgr HB1.out hrb)
  clear hRd2 hgr
  go_wp2_with fail
  refine (left_any rb (H.drop g) _ HRd2.out).mono ?_
  rintro e w3 ⟨rfl, rfl⟩
  rw [List.length_drop, ← HLH.out]
  go_wp2_with fail
  refine (whole_yes b off (g + x + 4) c (headL xs) _ (HT.out.keep HB2.out) (HRB.out.keep (Nat.le_refl _) HB2.out) HBL.out (by omega) (by omega) (head_bytes HBX.out) HHB.out).mono ?_
  rintro e w3 ⟨rfl, rfl⟩
  obtain ⟨i0, hi0, hz0, hz1, hz2⟩ := info_parts Tryd.info5
  have hrx := HRX.out.keep (Nat.le_refl _) HB2.out
  have hsz := HB2.out.size
  have HRX2 := Lib.hid hrx
  have HSZ := Lib.hid hsz
  clear hrx hsz
  have hcg1 : ¬ c = g := by omega
  have hcg2 : ¬ g = c := by omega
  have hcg3 : c - g ≠ 0 := by omega
  have hcg4 : ¬ c ≤ g := by omega
  go_wp2_with (at_builtin; refine wpList_append_own _ rfl _ _ 25 rfl w.heap.size 5 i0 (.int .u8 0) 1 1 Tryd.underlying25 hi0 hz0 hz1 hz2 rfl (by decide) (.slice none 0 0) 0 [] rfl (World.ownsRow_nil _ _ _ _) ⟨b, off + g, none⟩ (g + x - g) (c - g) (xs.map (Value.int .u8)) rfl ?h1 ?h2 ?h3 ?h4 ?h5 ?h6 ?_)
  case h1 => rw [List.length_map, ← HXL.out, Nat.mul_one]; omega
  case h2 => exact HRX2.out.adds _ rfl
  case h3 => intro u hu; simp only [List.mem_map] at hu; obtain ⟨x, _, rfl⟩ := hu; rfl
  case h4 => unfold maxLen; omega
  case h5 => omega
  case h6 => exact HSZ.out
  intro v4 w4 hown4 hgrow4 _
  have hB4 : Below w.heap.size w w4 := HB2.out.grown hgrow4 HSZ.out (fun k hk => by cases hk)
  obtain ⟨A4, c4, rfl, hr4, _, _⟩ := bytes_slice hown4
  have H4 := Lib.hid (And.intro hown4 (And.intro hr4 hB4))
  clear hown4 hr4 hB4 hgrow4
  go_wp2_with fail
  go_ret3
  exact ⟨A4, c4, by rw [← HXL.out]; rfl, by rw [← HXL.out]; exact H4.out.1, H4.out.2.1, H4.out.2.2⟩
end Go.Proofs.YthogafecplhckaaDoor
namespace Go.Proofs.YthogafecplhckaaDoor
open Go.RowKit
set_option linter.unusedSimpArgs false
set_option linter.unusedVariables false
theorem al_len : (blockL [104, 105]).length = 7 := by decide +kernel
theorem al_sum : sumI [49, 50, 51, 52, 53, 54, 55, 56, 57] = 3808858755 := by decide +kernel
theorem al_str : strOfNums [104, 105] = ⟨#[104, 105]⟩ := by decide +kernel
theorem al_by1 : bytes [104, 105] := by intro x hx; simp at hx; omega
theorem al_by2 : bytes [49, 50, 51, 52, 53, 54, 55, 56, 57] := by intro x hx; simp at hx; omega
theorem al_by3 : bytes [7] := by intro x hx; simp at hx; omega
theorem Row.marked {w : World} {t : TypeId} {xs : List Value} {cs : Array Value} {fr : Nat × Nat} (hx : cs = xs.toArray) : Row (w.alloc (.cells cs t fr)) (some ⟨w.heap.size, 0, none⟩) xs := by
  subst hx; exact .inr ⟨_, _, rfl, fun j u hu => by rw [Nat.zero_add, cell_of_row _ _ j _ t fr (heap_alloc_new w _)]; simpa using hu⟩
end Go.Proofs.YthogafecplhckaaDoor
namespace Go.Proofs.YthogafecplhckaaDoor
open Go.RowKit
set_option linter.unusedSimpArgs false
set_option linter.unusedVariables false
theorem blockL_inj {xs ys : List Int} (hx : xs.length ≤ 100000) (hy : ys.length ≤ 100000) (h : blockL xs = blockL ys) : xs = ys := by
  have e1 : ∀ zs : List Int, blockL zs = encV (zs.length : Int) ++ (zs ++ sumB (sumN (headL zs))) := by
    intro zs; unfold blockL headL; rw [List.append_assoc]
  have h1 := numP_enc (v := (xs.length : Int)) (by omega) (by omega) (xs ++ sumB (sumN (headL xs)))
  have h2 := numP_enc (v := (ys.length : Int)) (by omega) (by omega) (ys ++ sumB (sumN (headL ys)))
  rw [← e1] at h1 h2
  rw [h, h2] at h1
  have hl : xs.length = ys.length := by
    have := congrArg Prod.fst h1
    simp at this; omega
  rw [e1 xs, e1 ys, hl] at h
  exact (List.append_inj (List.append_cancel_left h) hl).1
theorem blockL_bytes {xs : List Int} (h : bytes xs) : bytes (blockL xs) := by
  intro z hz
  rcases List.mem_append.1 hz with hz | hz
  · exact head_bytes h z hz
  · exact sumB_bytes _ z hz
theorem blockL_iff {xs ys : List Int} (hx : xs.length ≤ 100000) (hy : ys.length ≤ 100000) : (blockL xs = blockL ys) ↔ xs = ys := ⟨blockL_inj hx hy, fun h => by rw [h]⟩
theorem strOf_back {a : List Int} (ha : bytes a) : (strOfNums a).data.toList.map (fun c => (c.toNat : Int)) = a := by
  rw [strOfNums_data, List.map_map]
  conv => rhs; rw [← List.map_id a]
  apply List.map_congr_left
  intro x hx
  obtain ⟨h0, h1⟩ := ha x hx
  simp only [Function.comp, id, UInt8.toNat_ofNat']
  omega
theorem strOf_inj {a b : List Int} (ha : bytes a) (hb : bytes b) (h : strOfNums a = strOfNums b) : a = b := by
  rw [← strOf_back ha, ← strOf_back hb, h]
theorem conv_zero (D : Option Addr) (c : Nat) (w : World) : Sem.run Tryd.prog (convert 25 9 (.slice D 0 c)) w = .ok (.string (strOfNums [])) w := by
  cases D with
  | none => exact run_convert_bytes_nil w 25 5 Tryd.underlying25 Tryd.underlying5 0 c 9 Tryd.underlying9
  | some a =>
    have hl : (loadCells a 0).run Tryd.prog w = .ok (([] : List Int).map (Value.int .u8)).toArray w := by
      have := run_loadCells_list (P := Tryd.prog) w a [] (fun j v hj => by simp at hj)
      simpa using this
    rw [run_convert_bytes_string w 25 9 5 _ 0 c Tryd.underlying25 Tryd.underlying5 Tryd.underlying9, run_bytesToString w _ 0 c [] hl]
    rfl
theorem conv_any {w : World} {D : Option Addr} {n c : Nat} {xs : List Int} (h : Row w D (xs.map (Value.int .u8))) (hn : n = xs.length) :
    Sem.run Tryd.prog (convert 25 9 (.slice D n c)) w = .ok (.string (strOfNums xs)) w := by
  rcases h with h | ⟨b, off, rfl, hc⟩
  · simp at h; subst h; subst hn; exact conv_zero D c w
  · exact conv_row (.inr ⟨b, off, rfl, hc⟩) hn
def TellS (w : World) (A : Option Addr) (n c : Nat) (q : ByteArray) : Prop := ∃ xs : List Int, Row w A (xs.map (Value.int .u8)) ∧ n = xs.length ∧ q = strOfNums xs ∧ Sem.run Tryd.prog (convert 25 9 (.slice A n c)) w = .ok (.string q) w
/-- A block of bytes that may be written. -/
def Pc (w : World) (g n : Nat) : Prop := ∃ cur, w.heap[g]? = some (.cells cur 5 (0, 0)) ∧ ∀ j, j < n → ∃ z : Int, 0 ≤ z ∧ z ≤ 255 ∧ cur[j]? = some (.int .u8 z)
theorem Pc.cell {w : World} {g n j : Nat} (h : Pc w g n) (hj : j < n) : ∃ z : Int, 0 ≤ z ∧ z ≤ 255 ∧ w.cell? ⟨g, j, none⟩ = some (.int .u8 z) := by
  obtain ⟨cur, h1, h2⟩ := h
  obtain ⟨z, z1, z2, z3⟩ := h2 j hj
  exact ⟨z, z1, z2, by rw [cell_of_row w g j cur 5 (0, 0) h1]; exact z3⟩
theorem Pc.frozen {w : World} {g n : Nat} (h : Pc w g n) (j : Nat) : w.frozen? ⟨g, j, none⟩ = false := by
  obtain ⟨cur, h1, h2⟩ := h
  simp [World.frozen?, h1]
theorem Pc.set_ {w : World} {g n k : Nat} (h : Pc w g n) {u : Int} (h0 : 0 ≤ u) (h9 : u ≤ 255) : Pc (w.setCell ⟨g, k, none⟩ (.int .u8 u)) g n := by
  obtain ⟨cur, h1, h2⟩ := h
  refine ⟨cur.setIfInBounds k (.int .u8 u), by simp [World.setCell, Array.getElem?_modify, h1], fun j hj => ?_⟩
  obtain ⟨z, z1, z2, z3⟩ := h2 j hj
  by_cases e : k = j
  · subst e
    have hs : k < cur.size := by
      rcases Nat.lt_or_ge k cur.size with h | h
      · exact h
      · rw [Array.getElem?_eq_none h] at z3; cases z3
    exact ⟨u, h0, h9, by simp [Array.getElem?_setIfInBounds, hs]⟩
  · exact ⟨z, z1, z2, by rw [Array.getElem?_setIfInBounds, if_neg e]; exact z3⟩
end Go.Proofs.YthogafecplhckaaDoor
namespace Go.Proofs.YthogafecplhckaaDoor
open Go.RowKit
set_option linter.unusedSimpArgs false
set_option linter.unusedVariables false
def beN (ts : List Int) : Nat := ts.foldl (fun t y => t * 256 + y.toNat) 0
theorem beN_snoc (ts : List Int) (y : Int) : beN (ts ++ [y]) = beN ts * 256 + y.toNat := by unfold beN; rw [List.foldl_append]; rfl
theorem beN_lt {ts : List Int} (hb : bytes ts) : beN ts < 256 ^ ts.length := by
  have : ∀ (l : List Int) (t m : Nat), bytes l → t < 256 ^ m → l.foldl (fun t y => t * 256 + y.toNat) t < 256 ^ (m + l.length) := by
    intro l
    induction l with
    | nil => intro t m _ h; exact h
    | cons a l ih =>
      intro t m hb h
      have ha := hb a (by simp)
      have := ih (t * 256 + a.toNat) (m + 1) (fun x hx => hb x (by simp [hx])) (by rw [Nat.pow_succ]; omega)
      rw [List.length_cons, show m + (l.length + 1) = m + 1 + l.length by omega]; exact this
  have h := this ts 0 0 hb (by simp)
  rw [Nat.zero_add] at h; exact h
theorem beN_sumB {s : Nat} (hs : s < 4294967296) : beN (sumB s) = s := by
  simp only [beN, sumB, List.foldl_cons, List.foldl_nil]
  omega
theorem beN_iff {ts : List Int} (h4 : ts.length = 4) (hb : bytes ts) {s : Nat} (hs : s < 4294967296) : ts = sumB s ↔ beN ts = s := by
  constructor
  · rintro rfl; exact beN_sumB hs
  · intro h
    match ts, h4 with
    | [a, b, c, d], _ =>
      have ha := hb a (by simp)
      have hb' := hb b (by simp)
      have hc := hb c (by simp)
      have hd := hb d (by simp)
      simp only [beN, List.foldl_cons, List.foldl_nil] at h
      simp only [sumB, List.cons.injEq, and_true]
      omega
set_option maxRecDepth 100000 in
set_option maxHeartbeats 4000000 in
theorem cwhole_any (b off n c : Nat) (body ts : List Int) (w : World) (hT : Tab w) (hA : Row w (some ⟨b, off, none⟩) ((body ++ ts).map (Value.int .u8))) (h4 : ts.length = 4) (hz : n = (body ++ ts).length) (hnc : n ≤ c) (hn : n ≤ 100000000) (hb : bytes body) (ht : bytes ts) (hpos : 0 < body.length) (r : Bool) (hr : r = decide (ts = sumB (sumN body))) :
    Calls Tryd.prog 57 #[.slice (some ⟨b, off, none⟩) n c] w fun e w' => e = .returned (.bool r) ∧ w = w' := by
  obtain ⟨m, hm⟩ : ∃ m, m = body.length := ⟨_, rfl⟩
  obtain ⟨s, hs⟩ : ∃ s, s = sumN body := ⟨_, rfl⟩
  have hs9 : s < 4294967296 := by rw [hs]; unfold sumN; omega
  have hnm : n = m + 4 := by rw [hz, List.length_append, ← hm, h4]
  have hpart := hA.part m
  rw [hm, List.take_append_of_le_length (Nat.le_refl _), List.take_length, List.drop_append_of_le_length (Nat.le_refl _), List.drop_length, List.nil_append, ← hm] at hpart
  obtain ⟨hp1, hp2⟩ := hpart
  have HR := Lib.hid (show r = decide (beN ts = s) by
    rw [hr, ← hs]
    have := beN_iff h4 ht hs9
    by_cases e : beN ts = s
    · rw [decide_eq_true e]; exact decide_eq_true (this.2 e)
    · rw [decide_eq_false e]; exact decide_eq_false (fun h => e (this.1 h)))
  have HP1 := Lib.hid hp1
  have HP2 := Lib.hid hp2
  have HT := Lib.hid hT
  have HBY := Lib.hid hb
  have HTY := Lib.hid ht
  have H4 := Lib.hid h4
  have HM := Lib.hid hm
  have HS := Lib.hid (show sumI body = (s : Int) by rw [hs]; rfl)
  rw [← hm] at hpos
  clear hA hz hT hb hm hs hp1 hp2 ht h4 hr
  subst hnm
  have hw : IntKind.i64.wrap (((m + 4 : Nat) : Int) - 4) = (m : Int) := by rw [IntWalk.i64_in _ (by omega)]; omega
  have hw2 : ((m + 4 : Nat) : Int) - 4 = (m : Int) := by omega
  have hcm : ¬ c = m := by omega
  have hcm2 : ¬ m = c := by omega
  go_enter Tryd.func57, Tryd.ntmps57
  go_wp2_with fail
  go_loop [4, 14] (fun a i => ∃ (k t : Nat), k ≤ 4 ∧ t < 4294967296 ∧ i = .int .i64 k ∧ a = .int .u32 (t : Int) ∧ Hid (t = beN (ts.take k))) (fun _ i => 4 - (intOf i).toNat)
  case atStart => exact ⟨0, 0, by omega, by omega, rfl, rfl, Lib.hid rfl⟩
  case round =>
    obtain ⟨k, t, hk, ht, rfl, rfl, HTT⟩ := hrel
    by_cases hlt : k < 4
    · have hkl : k < ts.length := by have := H4.out; omega
      have hyb := HTY.out ts[k] (List.getElem_mem hkl)
      obtain ⟨y, hy⟩ : ∃ y : Nat, y = ts[k].toNat := ⟨_, rfl⟩
      have hy2 : ts[k] = (y : Int) := by omega
      have hy9 : y < 256 := by omega
      have hc : w.cell? ⟨b, off + m + k, none⟩ = some (.int .u8 (y : Int)) := by
        rcases HP2.out with h | ⟨b', off', he, hcc⟩
        · have := congrArg List.length h
          simp at this; subst this; simp at hkl
        · cases he
          exact hcc k _ (by rw [List.getElem?_map, List.getElem?_eq_getElem hkl, hy2]; rfl)
      have hst : beN (ts.take (k + 1)) = t * 256 + y := by rw [take_snoc ts k hkl, beN_snoc, ← HTT.out, ← hy]
      have hbig : t * 256 + y < 4294967296 := by
        rw [← hst]
        have h := beN_lt (ts := ts.take (k + 1)) (fun x hx => HTY.out x (List.mem_of_mem_take hx))
        have h2 : (ts.take (k + 1)).length ≤ 4 := by rw [List.length_take]; omega
        have h3 : 256 ^ (ts.take (k + 1)).length ≤ 256 ^ 4 := Nat.pow_le_pow_right (by omega) h2
        omega
      obtain ⟨t2, ht2⟩ : ∃ t2, t2 = t * 256 + y := ⟨_, rfl⟩
      have e1 : bits .or .u32 ((t : Int) * 256) (y : Int) = (t2 : Int) := by
        have h := u32_or_nat (t * 256) y (by omega) (by omega)
        have h2 : (((t * 256 : Nat) : Int)) = (t : Int) * 256 := by omega
        rw [h2] at h
        rw [h, nat_join 8 (t * 256) y (by omega) (by omega), ht2]
      have HT2 := Lib.hid (show t2 = beN (ts.take (k + 1)) by rw [ht2, hst])
      have ht29 : t2 < 4294967296 := by omega
      have ht9 : (t : Int) * 256 < 4294967296 := by omega
      have hk1 : (k : Int) < 4 := by omega
      have hk0 : (0 : Int) ≤ (k : Int) := by omega
      clear hy hst ht2 hbig hy2 hyb
      go_wp2_with fail
      go_round
      case rel => exact ⟨k + 1, t2, by omega, ht29, by go_num, rfl, HT2⟩
      case measure => simp [intOf]; omega
    · have hk1 : ¬ (k : Int) < 4 := by omega
      have HRR := Lib.hid (show r = decide (t = s) by
        rw [HR.out, HTT.out, List.take_of_length_le (by have := H4.out; omega)])
      clear HTT HR
      go_wp2_with fail
      refine (sum_any (some ⟨b, off, none⟩) m c body _ HT.out HP1.out HM.out (by omega) HBY.out).mono ?_
      rintro e w' ⟨rfl, rfl⟩
      rw [HS.out]
      by_cases hts : t = s
      · have hrr := HRR.out
        rw [decide_eq_true hts] at hrr
        subst hrr
        subst hts
        go_wp2_with fail
        go_ret
        exact ⟨rfl, rfl⟩
      · have hrr := HRR.out
        rw [decide_eq_false hts] at hrr
        subst hrr
        have hne : ((t : Int) == (s : Int)) = false := by simp; omega
        have hne2 : decide ((t : Int) = (s : Int)) = false := by simp; omega
        go_wp2_with fail
        go_ret
        exact ⟨by first | rfl | (simp [hne2]; done) | (simp; omega), rfl⟩
/-- The block that bytes begin with: its bytes, and how many the block has. -/
def firstZ (bs : List Int) : Option (List Int × Nat) :=
  if (numP (bs.take 10)).2 = 0 ∨ (numP (bs.take 10)).1 < 0 ∨ 16777216 < (numP (bs.take 10)).1 ∨ bs.length < (numP (bs.take 10)).2 + (numP (bs.take 10)).1.toNat + 4 ∨
    (bs.drop ((numP (bs.take 10)).2 + (numP (bs.take 10)).1.toNat)).take 4 ≠ sumB (sumN (bs.take ((numP (bs.take 10)).2 + (numP (bs.take 10)).1.toNat))) then none
  else some ((bs.drop (numP (bs.take 10)).2).take (numP (bs.take 10)).1.toNat, (numP (bs.take 10)).2 + (numP (bs.take 10)).1.toNat + 4)
def FirstAny (w : World) (o : Option (List Int × Nat)) (e : Ending) (w' : World) : Prop :=
  match o with
  | none => e = .returned (.tuple #[.slice none 0 0, .int .i64 0, .int .i64 21]) ∧ Below w.heap.size w w'
  | some (xs, L) => FirstPost w xs L e w'
set_option maxHeartbeats 1000000 in
theorem open_zero (ad : Addr) (c : Nat) (w : World) : Calls Tryd.prog 42 #[.slice (some ad) 0 c] w (OpenPost w []) := by
  obtain ⟨i0, hi0, hz0, hz1, hz2⟩ := info_parts Tryd.info5
  go_enter Tryd.func42, Tryd.ntmps42
  go_wp2_with (at_builtin; refine wpList_append_own _ rfl _ _ 25 rfl w.heap.size 5 i0 (.int .u8 0) 1 1 Tryd.underlying25 hi0 hz0 hz1 hz2 rfl (by decide) (.slice none 0 0) 0 [] rfl (World.ownsRow_nil _ _ _ _) ad 0 c [] rfl rfl (by simp) (by simp) (by simp [maxLen]) (by omega) (Nat.le_refl _) ?_)
  intro v' w1 hown hgrow hiff
  have hv : v' = .slice none 0 0 := hiff
  have hB : Below w.heap.size w w1 := (Below.refl _ _).grown hgrow (Nat.le_refl _) (by simp [Value.ownBlock])
  subst hv
  have HP : Hid (OpenPost w [] (.returned (.pointer (some ⟨w1.heap.size, 0, none⟩))) (w1.alloc (.cells #[.slice none 0 0] 116))) :=
    ⟨_, rfl, hB.size, ⟨none, 0, 0, by simp, rfl, Nat.le_refl _, by omega, fun o => by simp, .inl rfl⟩, bpush hB _⟩
  clear hown hgrow hiff hB
  go_wp2
  go_ret
  exact HP.out
/-- A reader of whatever bytes. -/
theorem open_all (A : Option Addr) (n c : Nat) (bs : List Int) (w : World) (hA : Row w A (bs.map (Value.int .u8))) (hn : n ≤ 1000000) (hz : n = bs.length) (hnil : A = none → c = 0) :
    Calls Tryd.prog 42 #[.slice A n c] w (OpenPost w bs) := by
  rcases Nat.eq_zero_or_pos n with h0 | h0
  · subst h0
    have hb : bs = [] := List.eq_nil_of_length_eq_zero hz.symm
    subst hb
    cases A with
    | none => rw [hnil rfl]; exact open_none w
    | some ad => exact open_zero ad c w
  · exact open_any A n c bs w hA hn hz h0
set_option maxRecDepth 100000 in
set_option maxHeartbeats 4000000 in
theorem first_any (A : Option Addr) (n c : Nat) (bs : List Int) (w : World) (hT : Tab w) (hA : Row w A (bs.map (Value.int .u8))) (hz : n = bs.length) (hnc : n ≤ c) (hn : n ≤ 1000000) (hb : bytes bs) (hnil : A = none → c = 0) :
    Calls Tryd.prog 30 #[.slice A n c] w (FirstAny w (firstZ bs)) := by
  obtain ⟨h, hh⟩ : ∃ h, h = min n 10 := ⟨_, rfl⟩
  have hh2 : h ≤ n ∧ h ≤ 10 := by omega
  obtain ⟨hh2, hh3⟩ := hh2
  obtain ⟨H, hH⟩ : ∃ H, H = bs.take 10 := ⟨_, rfl⟩
  have hHl : h = H.length := by rw [hH, List.length_take, ← hz, hh]; omega
  have hHt : H = bs.take h := by
    rw [hH]
    rcases Nat.le_total n 10 with e | e
    · rw [List.take_of_length_le (by omega), List.take_of_length_le (by omega)]
    · rw [show h = 10 by omega]
  have HRH := Lib.hid (show Row w A (H.map (Value.int .u8)) by
    rcases hA with hA | ⟨b, off, rfl, hc⟩
    · left; simp at hA; rw [hH, hA]; rfl
    · rw [hHt]; exact ((show Row w (some ⟨b, off, none⟩) (bs.map (Value.int .u8)) from .inr ⟨b, off, rfl, hc⟩).part h).1)
  have HLH := Lib.hid hHl
  have HBH := Lib.hid (show bytes H from fun z hz => hb z (by rw [hH] at hz; exact List.mem_of_mem_take hz))
  have HT := Lib.hid hT
  have HA := Lib.hid hA
  have HZ := Lib.hid hz
  have HB := Lib.hid hb
  have HNIL := Lib.hid hnil
  have hmin : min (n : Int) 10 = (h : Int) := by omega
  obtain ⟨v, g, hp⟩ : ∃ v g, numP H = (v, g) := ⟨_, _, rfl⟩
  obtain ⟨hg1, hg2, _, _⟩ := numP_len hp
  rw [← hHl] at hg1
  by_cases hbad : g = 0 ∨ v < 0 ∨ 16777216 < v
  · have hF : firstZ bs = none := by
      unfold firstZ
      rw [← hH, hp, if_pos (by
        rcases hbad with e | e | e
        · exact .inl e
        · exact .inr (.inl e)
        · exact .inr (.inr (.inl e)))]
    rw [hF]
    have HP := Lib.hid hp
    have HBAD := Lib.hid hbad
    clear hp hbad hF hH hHl hHt hA hT hz hb hnil hg2 hh
    go_enter Tryd.func30, Tryd.ntmps30
    go_wp2_with fail
    refine (open_all A h c H _ HRH.out (by omega) HLH.out HNIL.out).mono ?_
    rintro e w1 ⟨rb, rfl, hrb, hRd, hB1⟩
    have HRd := Lib.hid hRd
    have HB1 := Lib.hid hB1
    clear hRd hB1
    go_wp2_with fail
    refine (rint_bad rb H 0 16777216 _ HRd.out HBH.out v g HP.out HBAD.out).mono ?_
    rintro e w2 ⟨rfl, hRd2, hgr⟩
    have HRd2 := Lib.hid hRd2
    have HB2 := Lib.hid (zgrown_below hgr HB1.out hrb)
    clear hRd2 hgr
    go_wp2_with fail
    refine (left_any rb H _ HRd2.out).mono ?_
    rintro e w3 ⟨rfl, rfl⟩
    rw [← HLH.out]
    go_wp2_with fail
    go_ret3
    exact ⟨rfl, HB2.out⟩
  obtain ⟨x, hx⟩ : ∃ x : Nat, v = (x : Int) := ⟨v.toNat, by omega⟩
  subst hx
  have hg0 : 0 < g := by omega
  have hx9 : x ≤ 16777216 := by omega
  have hd1 : (h : Int) - ((h - g : Nat) : Int) = (g : Int) := by omega
  have hw1 : IntKind.i64.wrap ((h : Int) - ((h - g : Nat) : Int)) = (g : Int) := by rw [IntWalk.i64_in _ (by omega)]; omega
  have hw2 : IntKind.i64.wrap ((g : Int) + (x : Int)) = (g : Int) + (x : Int) := IntWalk.i64_in _ (by omega)
  have hw3 : IntKind.i64.wrap ((g : Int) + (x : Int) + 4) = (g : Int) + (x : Int) + 4 := IntWalk.i64_in _ (by omega)
  have hFu : firstZ bs = if bs.length < g + x + 4 ∨ (bs.drop (g + x)).take 4 ≠ sumB (sumN (bs.take (g + x))) then none else some ((bs.drop g).take x, g + x + 4) := by
    unfold firstZ
    rw [← hH, hp]
    simp only [Int.toNat_natCast]
    by_cases hc : bs.length < g + x + 4 ∨ (bs.drop (g + x)).take 4 ≠ sumB (sumN (bs.take (g + x)))
    · rw [if_pos hc, if_pos (.inr (.inr (.inr hc)))]
    · rw [if_neg hc, if_neg (by
        intro e
        rcases e with e | e | e | e
        · omega
        · omega
        · omega
        · exact hc e)]
  have HP := Lib.hid hp
  by_cases hsz : n < g + x + 4
  · have hF : firstZ bs = none := by rw [hFu, if_pos (.inl (by omega))]
    rw [hF]
    have hd3 : decide ((n : Int) < (g : Int) + (x : Int) + 4) = true := by simp; omega
    clear hp hbad hF hFu hH hHl hHt hA hT hz hb hnil hg2 hh
    go_enter Tryd.func30, Tryd.ntmps30
    go_wp2_with fail
    refine (open_all A h c H _ HRH.out (by omega) HLH.out HNIL.out).mono ?_
    rintro e w1 ⟨rb, rfl, hrb, hRd, hB1⟩
    have HRd := Lib.hid hRd
    have HB1 := Lib.hid hB1
    clear hRd hB1
    go_wp2_with fail
    refine (rint_good rb H 0 16777216 _ HRd.out HBH.out (x : Int) g HP.out (by omega) (by omega) (by omega)).mono ?_
    rintro e w2 ⟨rfl, hRd2, hgr⟩
    have HRd2 := Lib.hid hRd2
    have HB2 := Lib.hid (zgrown_below hgr HB1.out hrb)
    clear hRd2 hgr
    go_wp2_with fail
    refine (left_any rb (H.drop g) _ HRd2.out).mono ?_
    rintro e w3 ⟨rfl, rfl⟩
    rw [List.length_drop, ← HLH.out]
    go_wp2_with fail
    go_ret3
    exact ⟨rfl, HB2.out⟩
  obtain ⟨b, off, rfl⟩ := hA.head (by omega)
  obtain ⟨body, hbody⟩ : ∃ body, body = bs.take (g + x) := ⟨_, rfl⟩
  obtain ⟨ts, hts⟩ : ∃ ts, ts = (bs.drop (g + x)).take 4 := ⟨_, rfl⟩
  have hall : body ++ ts = bs.take (g + x + 4) := by rw [hbody, hts, ← List.take_add]
  have HRB := Lib.hid (show Row w (some ⟨b, off, none⟩) ((body ++ ts).map (Value.int .u8)) by rw [hall]; exact (hA.part _).1)
  have HTS := Lib.hid (show ts.length = 4 by rw [hts, List.length_take, List.length_drop]; omega)
  have HBO := Lib.hid (show bytes body from fun z hz => hb z (by rw [hbody] at hz; exact List.mem_of_mem_take hz))
  have HTB := Lib.hid (show bytes ts from fun z hz => hb z (by rw [hts] at hz; exact List.mem_of_mem_drop (List.mem_of_mem_take hz)))
  have HBL := Lib.hid (show g + x + 4 = (body ++ ts).length by rw [hall, List.length_take]; omega)
  have HHB := Lib.hid (show 0 < body.length by rw [hbody, List.length_take]; omega)
  obtain ⟨xs, hxs⟩ : ∃ xs, xs = (bs.drop g).take x := ⟨_, rfl⟩
  have HXL := Lib.hid (show x = xs.length by rw [hxs, List.length_take, List.length_drop]; omega)
  have HRX := Lib.hid (show Row w (some ⟨b, off + g, none⟩) (xs.map (Value.int .u8)) by rw [hxs]; exact ((hA.part g).2.part x).1)
  rw [← hbody, ← hts, ← hxs] at hFu
  have hd3 : decide ((n : Int) < (g : Int) + (x : Int) + 4) = false := by simp; omega
  by_cases hsum : ts = sumB (sumN body)
  · have hF : firstZ bs = some (xs, g + x + 4) := by
      rw [hFu, if_neg (by
        intro e
        rcases e with e | e
        · omega
        · exact e hsum)]
    rw [hF]
    have HSUM := Lib.hid (show true = decide (ts = sumB (sumN body)) by simp [hsum])
    clear hp hbad hF hFu hH hHl hHt hA hT hz hb hnil hg2 hh hbody hts hall hxs hsum
    go_enter Tryd.func30, Tryd.ntmps30
    go_wp2_with fail
    refine (open_all (some ⟨b, off, none⟩) h c H _ HRH.out (by omega) HLH.out HNIL.out).mono ?_
    rintro e w1 ⟨rb, rfl, hrb, hRd, hB1⟩
    have HRd := Lib.hid hRd
    have HB1 := Lib.hid hB1
    clear hRd hB1
    go_wp2_with fail
    refine (rint_good rb H 0 16777216 _ HRd.out HBH.out (x : Int) g HP.out (by omega) (by omega) (by omega)).mono ?_
    rintro e w2 ⟨rfl, hRd2, hgr⟩
    have HRd2 := Lib.hid hRd2
    have HB2 := Lib.hid (zgrown_below hgr HB1.out hrb)
    clear hRd2 hgr
    go_wp2_with fail
    refine (left_any rb (H.drop g) _ HRd2.out).mono ?_
    rintro e w3 ⟨rfl, rfl⟩
    rw [List.length_drop, ← HLH.out]
    go_wp2_with fail
    refine (cwhole_any b off (g + x + 4) c body ts _ (HT.out.keep HB2.out) (HRB.out.keep (Nat.le_refl _) HB2.out) HTS.out HBL.out (by omega) (by omega) HBO.out HTB.out HHB.out true HSUM.out).mono ?_
    rintro e w3 ⟨rfl, rfl⟩
    obtain ⟨i0, hi0, hz0, hz1, hz2⟩ := info_parts Tryd.info5
    have HRX2 := Lib.hid (HRX.out.keep (Nat.le_refl _) HB2.out)
    have HSZ := Lib.hid HB2.out.size
    have hcg1 : ¬ c = g := by omega
    have hcg2 : ¬ g = c := by omega
    have hcg3 : c - g ≠ 0 := by omega
    have hcg4 : ¬ c ≤ g := by omega
    go_wp2_with (at_builtin; refine wpList_append_own _ rfl _ _ 25 rfl w.heap.size 5 i0 (.int .u8 0) 1 1 Tryd.underlying25 hi0 hz0 hz1 hz2 rfl (by decide) (.slice none 0 0) 0 [] rfl (World.ownsRow_nil _ _ _ _) ⟨b, off + g, none⟩ (g + x - g) (c - g) (xs.map (Value.int .u8)) rfl ?h1 ?h2 ?h3 ?h4 ?h5 ?h6 ?_)
    case h1 => rw [List.length_map, ← HXL.out, Nat.mul_one]; omega
    case h2 => exact HRX2.out.adds _ rfl
    case h3 => intro u hu; simp only [List.mem_map] at hu; obtain ⟨x, _, rfl⟩ := hu; rfl
    case h4 => unfold maxLen; omega
    case h5 => omega
    case h6 => exact HSZ.out
    intro v4 w4 hown4 hgrow4 _
    have hB4 : Below w.heap.size w w4 := HB2.out.grown hgrow4 HSZ.out (fun k hk => by cases hk)
    obtain ⟨A4, c4, rfl, hr4, _, _⟩ := bytes_slice hown4
    have H4 := Lib.hid (And.intro hown4 (And.intro hr4 hB4))
    clear hown4 hr4 hB4 hgrow4
    go_wp2_with fail
    go_ret3
    exact ⟨A4, c4, by rw [← HXL.out]; first | rfl | (simp; done) | (simp; omega), by rw [← HXL.out]; exact H4.out.1, H4.out.2.1, H4.out.2.2⟩
  · have hF : firstZ bs = none := by rw [hFu, if_pos (.inr hsum)]
    rw [hF]
    have HSUM := Lib.hid (show false = decide (ts = sumB (sumN body)) by simp [hsum])
    clear hp hbad hF hFu hH hHl hHt hA hT hz hb hnil hg2 hh hbody hts hall hxs hsum
    go_enter Tryd.func30, Tryd.ntmps30
    go_wp2_with fail
    refine (open_all (some ⟨b, off, none⟩) h c H _ HRH.out (by omega) HLH.out HNIL.out).mono ?_
    rintro e w1 ⟨rb, rfl, hrb, hRd, hB1⟩
    have HRd := Lib.hid hRd
    have HB1 := Lib.hid hB1
    clear hRd hB1
    go_wp2_with fail
    refine (rint_good rb H 0 16777216 _ HRd.out HBH.out (x : Int) g HP.out (by omega) (by omega) (by omega)).mono ?_
    rintro e w2 ⟨rfl, hRd2, hgr⟩
    have HRd2 := Lib.hid hRd2
    have HB2 := Lib.hid (zgrown_below hgr HB1.out hrb)
    clear hRd2 hgr
    go_wp2_with fail
    refine (left_any rb (H.drop g) _ HRd2.out).mono ?_
    rintro e w3 ⟨rfl, rfl⟩
    rw [List.length_drop, ← HLH.out]
    go_wp2_with fail
    refine (cwhole_any b off (g + x + 4) c body ts _ (HT.out.keep HB2.out) (HRB.out.keep (Nat.le_refl _) HB2.out) HTS.out HBL.out (by omega) (by omega) HBO.out HTB.out HHB.out false HSUM.out).mono ?_
    rintro e w3 ⟨rfl, rfl⟩
    go_wp2_with fail
    go_ret3
    exact ⟨rfl, HB2.out⟩
set_option maxHeartbeats 1000000 in
theorem block_big (A : Option Addr) (n c : Nat) (w : World) (hn : 16777216 < n) :
    Calls Tryd.prog 35 #[.slice A n c] w fun e w' => e = .returned (.tuple #[.slice none 0 0, .int .i64 21]) ∧ w = w' := by
  have h1 : (16777216 : Int) < (n : Int) := by omega
  go_enter Tryd.func35, Tryd.ntmps35
  go_wp2_with fail
  go_ret2
  exact ⟨rfl, rfl⟩
end Go.Proofs.YthogafecplhckaaDoor
