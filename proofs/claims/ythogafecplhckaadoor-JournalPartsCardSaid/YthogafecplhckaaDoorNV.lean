/- JournalReads (3). -/
import Derived.Test.YthogafecplhckaaDoorNU
import Derived.Test.YthogafecplhckaaDoorNM
import Derived.Test.YthogafecplhckaaDoorNJ
namespace Go.Proofs.YthogafecplhckaaDoor
open Go.RowKit
set_option linter.unusedSimpArgs false
set_option linter.unusedVariables false
theorem JPre.right {L M : List ByteArray} : ∀ {Z : List EZ} {k : Nat} {bs : List Int}, JPre L M Z k bs → ∀ z ∈ Z, rightJ L M z := by
  intro Z
  induction Z with
  | nil => intro k bs _ z hz; cases hz
  | cons y Z ih =>
    intro k bs h z hz
    obtain ⟨l, k', h1, h2, h3, h4⟩ := h
    rcases List.mem_cons.1 hz with rfl | hz
    · exact h2
    · exact ih h4 z hz
theorem JPre.len {L M : List ByteArray} : ∀ {Z : List EZ} {k : Nat} {bs : List Int}, JPre L M Z k bs → Z.length ≤ k := by
  intro Z
  induction Z with
  | nil => intro k bs _; exact Nat.zero_le _
  | cons y Z ih =>
    intro k bs h
    obtain ⟨l, k', h1, h2, h3, h4⟩ := h
    have h5 := firstZ_bd h1
    have h6 := ih h4
    rw [List.length_cons]; omega
theorem EntsC.sized {w : World} {A : Option Addr} {Z : List EZ} {L M : List ByteArray} (h : EntsC w A Z) (hr : ∀ z ∈ Z, rightJ L M z) (hL : L.length ≤ 1000) (hM : M.length ≤ 1000) : SizedL Z := by
  intro z hz
  have h1 := h.good z hz
  have h2 := hr z hz
  have h3 := h1.nd
  have h4 := h1.nx
  cases ht : z.tick with
  | true =>
    obtain ⟨_, h5, h6, _⟩ := right_tick h2 ht
    rw [h3, h4, h5, h6]
    exact ⟨Nat.zero_le _, Nat.zero_le _⟩
  | false =>
    obtain ⟨_, h5⟩ := right_event h2 ht
    rw [h3, h4, h5.dl, h5.xl]
    omega
def fN : ByteArray := ⟨#[102]⟩
def gN : ByteArray := ⟨#[103]⟩
theorem f_name : nameB fN = true := by decide +kernel
theorem fg_ne : gN ≠ fN := by decide +kernel
/-- Bytes, appended to a vault with room that no fuse breaks. -/
theorem app_well {P : VZ} {s : ByteArray} {bs : List Int} (h : VOk P) (hn : nameB s = true) (ha : P.armed = false) (hu : usedF P.F + bs.length ≤ P.room) (hl : P.F.length < 200) : ∃ P', appendS P s bs = (P', 0) ∧ Appd P P' s bs :=
  ⟨_, app_ok hn (brk_off ((act_armed P).trans ha)) hu hl, put_appd h (act_F P) (act_room P) (act_armed P)⟩
set_option maxRecDepth 100000 in
set_option maxHeartbeats 16000000 in
theorem reads_walk (A B Ab : Option Addr) (n c m d nb cb : Nat) (L M : List ByteArray) (bs : List Int) (w : World) (hT : Tab w) (hA : Row w A (texts L)) (hB : Row w B (texts M)) (hn : n = L.length) (hm : m = M.length) (hnc : n ≤ c) (hmd : m ≤ d) (ha : A = none → c = 0) (hb : B = none → d = 0)
    (hL : ∀ s ∈ L, s.size ≤ 9223372036854775807) (hM : ∀ s ∈ M, s.size ≤ 9223372036854775807) (hn2 : n ≤ 9223372036854775807) (hm2 : m ≤ 9223372036854775807) (hrow : Row w Ab (bs.map (Value.int .u8))) (hnb : nb = bs.length) (hcb : nb ≤ cb) (hnil : Ab = none → cb = 0) (hby : bytes bs) (hnb2 : nb ≤ 9223372036854775807) :
    Calls Tryd.prog 3 #[.agg #[.slice A n c, .slice B m d], .slice Ab nb cb] w fun e w' => e = .returned (.bool true) ∧ Below w.heap.size w w' := by
  obtain ⟨W1, hW1⟩ : ∃ W1, W1 = w.alloc (.cells #[.slice A n c, .slice B m d] 24) := ⟨_, rfl⟩
  have hb1 : Below w.heap.size w W1 := by rw [hW1]; exact bpush (Below.refl _ _) _
  have HCC := Lib.hid (fun W (h : Below W1.heap.size W1 W) => show W.cell? ⟨w.heap.size, 0, none⟩ = some (.slice A n c) ∧ W.cell? ⟨w.heap.size, 1, none⟩ = some (.slice B m d) from by
    rw [hW1] at h
    exact ⟨cell_on h (cell_made rfl rfl), cell_on h (cell_made rfl rfl)⟩)
  obtain ⟨rf, hrf⟩ := bool_of (FitsJ L M [])
  have HFIT := Lib.hid (fitsj_any A B none n c m d 0 0 L M [] W1 (hA.keep (Nat.le_refl _) hb1) (hB.keep (Nat.le_refl _) hb1) ⟨.inl rfl, fun z hz => by cases hz⟩ hn hm rfl hnc hmd ha hb hL hM hn2 hm2 (by omega) (fun z hz => by cases hz) rf hrf)
  have HT := Lib.hid (hT.keep hb1)
  have HN := Lib.hid hn
  have HM := Lib.hid hm
  have HRF := Lib.hid hrf
  have HROW := Lib.hid (hrow.keep (Nat.le_refl _) hb1)
  have HNB := Lib.hid hnb
  have HCB := Lib.hid hcb
  have HNIL := Lib.hid hnil
  have HBY := Lib.hid hby
  have HROW0 := Lib.hid hrow
  have HW1 := Lib.hid hW1
  have HBW1 := Lib.hid hb1
  clear hT hA hB hn hm hnc hmd ha hb hL hM hn2 hm2 hrow hnb hcb hnil hby hW1 hb1 hrf
  go_enter Tryd.func3, Tryd.ntmps3
  go_upto_region 1 with fail
  rw [← HW1.out]
  clear HW1
  obtain ⟨q0, q1⟩ := HCC.out W1 (Below.refl _ _)
  go_wp2_with fail
  refine HFIT.out.mono ?_
  rintro e w2 ⟨rfl, hb2⟩
  have HB2 := Lib.hid hb2
  clear hb2 q0 q1
  have HAL := Lib.hid (alive_any w2 (HT.out.keep HB2.out))
  cases rf with
  | false =>
    go_wp2_with (go_at_call 8; refine HAL.out.mono ?_; rintro e w3 ⟨rfl, hb3⟩)
    go_ret
    exact ⟨rfl, bthen HBW1.out (bthen HB2.out hb3)⟩
  | true =>
  by_cases hlen : 600 < nb
  · have h1 : decide ((600 : Int) < (nb : Int)) = true := by simp; omega
    have h2 : (600 : Int) < (nb : Int) := by omega
    clear hlen
    go_wp2_with (go_at_call 8; refine HAL.out.mono ?_; rintro e w3 ⟨rfl, hb3⟩)
    go_ret
    exact ⟨rfl, bthen HBW1.out (bthen HB2.out hb3)⟩
  · have h1 : decide ((600 : Int) < (nb : Int)) = false := by simp; omega
    have h2 : ¬ (600 : Int) < (nb : Int) := by omega
    have hf := HRF.out.1 rfl
    have hn20 : n ≤ 20 ∧ m ≤ 20 := ⟨by rw [HN.out]; exact hf.l.1, by rw [HM.out]; exact hf.m.1⟩
    obtain ⟨hn20, hm20⟩ := hn20
    have hnb6 : nb ≤ 600 := by omega
    clear hf hlen HAL
    go_upto_region 5 with (go_at_call 9; refine (newG_any 1000 w2 (by omega)).mono ?_; rintro e w3 ⟨vb, a, rfl, hv, hb⟩; have HV3 := Lib.hid hv; have HB3 := Lib.hid (bthen HB2.out hb); clear hv hb)
    clear h1 h2
    obtain ⟨P1, hP1, hA1⟩ := app_well (P := normZ (newZ 1000 vb)) (s := fN) (bs := bs) (VOk.norm HV3.out) f_name rfl (by show 0 + bs.length ≤ 1000; have := HNB.out; omega) (by show 0 < 200; omega)
    have HAP := Lib.hid (append_any w2.heap.size a (newZ 1000 vb) fN Ab nb cb bs w3 HV3.out (by decide) (HROW.out.keep (Nat.le_refl _) HB3.out) HNB.out HCB.out HNIL.out HBY.out hnb2 (fun hne b o hAe hf => by
      subst hAe
      have h1 := (HV3.out.foot_lt hf).2
      have h2 : b < w.heap.size := by
        rcases HROW0.out with h0 | ⟨b', o', he, hc⟩
        · exact absurd (List.map_eq_nil_iff.1 h0) hne
        · cases he
          cases hbs : bs with
          | nil => exact absurd hbs hne
          | cons x xs => exact lt_of_cell (hc 0 (.int .u8 x) (by rw [hbs]; rfl))
      have h3 := HB2.out.size
      have h4 := HBW1.out.size
      omega))
    rw [hP1] at HAP
    have HA1 := Lib.hid hA1
    clear hP1 hA1
    go_wp2_with fail
    refine HAP.out.mono ?_
    rintro e w4 ⟨V1, rfl, hV1, hL4⟩
    simp only [] at hV1 ⊢
    have HCN := Lib.hid (show bs = (lkF V1.F fN).bs from by
      have h1 := HA1.out.cnt
      rw [← hV1, cnt_norm, show cntZ (normZ (newZ 1000 vb)) fN = [] from rfl, List.nil_append] at h1
      exact h1.symm)
    have HCG := Lib.hid (show ([] : List Int) = (lkF V1.F gN).bs from by
      have h1 := (HA1.out.far gN fg_ne).1
      rw [← hV1, cnt_norm] at h1
      rw [h1]; rfl)
    have HV4 := Lib.hid hL4.rep
    have HB4 := Lib.hid (show Below W1.heap.size W1 w4 from HB3.out.trans ((Left.below' HV3.out hL4 (by have h1 := HB3.out.size; have h2 := HV3.out.foot_lt (.inl rfl); omega)).mono (by have := HB2.out.size; omega)))
    clear hV1 hL4 HAP HA1 HV3
    obtain ⟨q0, q1⟩ := HCC.out w4 HB4.out
    have HR1 := Lib.hid (jread_any w2.heap.size a V1 fN A B n c m d L M w4 (HT.out.keep HB4.out) HV4.out (by decide) HN.out HM.out (by omega) (by omega) bs HCN.out (by have := HNB.out; omega))
    go_upto_region 7 with fail
    go_wp2_with fail
    refine HR1.out.mono ?_
    rintro e w5 ⟨A5, c5, Z5, k5, rfl, hZ5, hlc5, hnil5, hrun5, hkb5, hb5⟩
    clear q0 q1
    have HB5 := Lib.hid (bthen HB4.out hb5)
    have HV5 := Lib.hid (HV4.out.below hb5)
    have HZ5 := Lib.hid hZ5
    have HRUN5 := Lib.hid hrun5
    obtain ⟨l5, hl5⟩ : ∃ l5, l5 = Z5.length := ⟨_, rfl⟩
    have hl5b : l5 ≤ 600 := by have h1 := hrun5.1.len; have := HNB.out; omega
    rw [← hl5]
    have HL5 := Lib.hid hl5
    clear hZ5 hrun5 hl5 hb5 hlc5 hnil5 HR1
    obtain ⟨q0, q1⟩ := HCC.out w5 HB5.out
    have HR2 := Lib.hid (entries_any A B Ab n c m d nb cb L M bs w5 (HROW.out.keep (Nat.le_refl _) HB5.out) HNB.out (by omega) HBY.out HCB.out HNIL.out HN.out HM.out (by omega) (by omega))
    go_wp2_with fail
    refine HR2.out.mono ?_
    rintro e w6 ⟨A6, c6, Z6, k6, rfl, hZ6, hlc6, hnil6, hrun6, hkb6, hb6⟩
    clear q0 q1
    obtain ⟨hsame, rfl⟩ := HRUN5.out.one hrun6
    have HSM := Lib.hid hsame
    have HB6 := Lib.hid (bthen HB5.out hb6)
    have HV6 := Lib.hid (HV5.out.below hb6)
    have HZ56 := Lib.hid (HZ5.out.keep (Nat.le_refl _) hb6)
    have HZ6 := Lib.hid hZ6
    have HRUN6 := Lib.hid hrun6
    obtain ⟨l6, hl6⟩ : ∃ l6, l6 = Z6.length := ⟨_, rfl⟩
    have hl6b : l6 ≤ 600 := by have h1 := hrun6.1.len; have := HNB.out; omega
    rw [← hl6]
    have HL6 := Lib.hid hl6
    clear hZ6 hrun6 hl6 hb6 hlc6 hnil6 HR2 hsame
    obtain ⟨q0, q1⟩ := HCC.out w6 HB6.out
    have HR3 := Lib.hid (jread_any w2.heap.size a V1 gN A B n c m d L M w6 (HT.out.keep HB6.out) HV6.out (by decide) HN.out HM.out (by omega) (by omega) [] HCG.out (by show 0 ≤ _; omega))
    go_wp2_with fail
    refine HR3.out.mono ?_
    rintro e w7 ⟨A7, c7, Z7, k7, rfl, hZ7, hlc7, hnil7, hrun7, hkb7, hb7⟩
    clear q0 q1
    have hz7 : Z7 = [] ∧ k7 = 0 := by
      obtain ⟨h1, h2⟩ := hrun7.one (show JRun L M [] 0 [] from ⟨rfl, fun xs l h => by rw [List.drop_zero, first_nil] at h; cases h⟩)
      refine ⟨?_, h2⟩
      have := h1.len
      exact List.eq_nil_of_length_eq_zero this
    obtain ⟨rfl, rfl⟩ := hz7
    have HB7 := Lib.hid (bthen HB6.out hb7)
    have HZ57 := Lib.hid (HZ56.out.keep (Nat.le_refl _) hb7)
    have HZ67 := Lib.hid (HZ6.out.keep (Nat.le_refl _) hb7)
    clear hZ7 hrun7 hb7 hlc7 hnil7 HR3
    have HSA := Lib.hid (samel_any A5 A6 l5 c5 l6 c6 Z5 Z6 w7 HZ57.out HZ67.out HL5.out HL6.out (by omega) (by omega) (HZ57.out.sized HRUN5.out.1.right (by have := HN.out; omega) (by have := HM.out; omega)) (HZ67.out.sized HRUN6.out.1.right (by have := HN.out; omega) (by have := HM.out; omega)) true (by simp only [true_iff]; exact HSM.out))
    rw [show ([] : List EZ).length = 0 from rfl]
    go_wp2_with fail
    refine HSA.out.mono ?_
    rintro e w8 ⟨rfl, hb8⟩
    have HB8 := Lib.hid (bthen HB7.out hb8)
    have HAL := Lib.hid (alive_any w8 (HT.out.keep HB8.out))
    clear hb8 HSA
    go_wp2_with (go_at_call 8; refine HAL.out.mono ?_; rintro e w9 ⟨rfl, hb9⟩)
    go_ret
    exact ⟨rfl, bthen HBW1.out (bthen HB8.out hb9)⟩
end Go.Proofs.YthogafecplhckaaDoor
