/- The list of bytes. -/
import Derived.Test.YtedldajlioeioaaPI
import Derived.Test.YtedldajlioeioaaO
namespace Go.Proofs.Ytedldajlioeioaa
open Go.RowKit
set_option linter.unusedSimpArgs false
set_option linter.unusedVariables false
def DecP (w : World) (o : Option (List Int)) (e : Ending) (w' : World) : Prop :=
  (match o with
    | none => e = .returned (.tuple #[.slice none 0 0, .int .i64 81])
    | some l => ∃ A c, e = .returned (.tuple #[.slice A l.length c, .int .i64 0]) ∧ Row w' A (l.map (Value.int .i64)) ∧ l.length ≤ c ∧ (A = none → c = 0)) ∧ Below w.heap.size w w'
set_option maxRecDepth 100000 in
set_option maxHeartbeats 4000000 in
theorem decode_any (A : Option Addr) (n c : Nat) (bs : List Int) (w : World) (hA : Row w A (bs.map (Value.int .u8))) (hz : n = bs.length) (hn : n ≤ 1000000) (hb : bytes bs) (hnil : A = none → c = 0) (o : Option (List Int)) (ho : o = decZ bs) :
    Calls Try.prog 12 #[.slice A n c] w (DecP w o) := by
  have HO := Lib.hid ho
  have HA := Lib.hid hA
  have HZ := Lib.hid hz
  have HB := Lib.hid hb
  have HN := Lib.hid hnil
  clear ho hA hz hb hnil
  obtain ⟨rd, hrd⟩ : ∃ r, r = readZ bs := ⟨_, rfl⟩
  have HRD := Lib.hid hrd
  clear hrd
  go_enter Try.func12, Try.ntmps12
  go_wp2_with fail
  refine (open_all A n c bs _ HA.out hn HZ.out HN.out).mono ?_
  rintro e w1 ⟨rb, rfl, hrb, hR1, hB1⟩
  have HR1 := Lib.hid hR1
  have HB1 := Lib.hid hB1
  clear hR1 hB1
  go_wp2_with fail
  refine (read_any rb bs _ HR1.out HB.out (by rw [← HZ.out]; exact hn) rd HRD.out).mono ?_
  rintro e w2 ⟨hm, hg⟩
  have HB2 := Lib.hid (grown_below hg HB1.out hrb)
  clear hg
  cases rd with
  | none =>
    obtain rfl : o = none := by rw [HO.out]; unfold decZ; rw [← HRD.out]
    obtain ⟨err, he, rfl⟩ := hm
    have h1 : (err == 0) = false := by simpa using he
    have h2 : (err != 0) = true := by simpa using he
    clear he HO HRD
    go_wp2_with fail
    go_ret2
    exact ⟨rfl, HB2.out⟩
  | some l =>
    obtain ⟨A3, c3, rfl, hr3, hc3, hn3⟩ := hm
    obtain ⟨m, hm⟩ : ∃ m, m = l.length := ⟨_, rfl⟩
    have hri := read_ints HRD.out.symm
    have hm9 : m ≤ 65536 := by rw [hm]; exact hri.2
    rw [← hm] at hc3 ⊢
    have HR3 := Lib.hid hr3
    have HI := Lib.hid hri.1
    have HM := Lib.hid hm
    have HN3 := Lib.hid hn3
    have HC3 := Lib.hid hc3
    clear hr3 hm hri hn3 hc3
    go_wp2_with fail
    refine (encode_any A3 m c3 l _ HR3.out HM.out hm9 HI.out).mono ?_
    rintro e w4 ⟨A4, c4, rfl, hr4, hc4, hn4, hB4⟩
    obtain ⟨E, hE⟩ : ∃ E, E = encZ l := ⟨_, rfl⟩
    rw [← hE] at hr4 ⊢
    obtain ⟨q, hq⟩ : ∃ q, q = E.length := ⟨_, rfl⟩
    rw [← hq]
    have HQ := Lib.hid hq
    have HR4 := Lib.hid hr4
    have HR34 := Lib.hid (HR3.out.keep (Nat.le_refl _) hB4)
    have HB4 := Lib.hid (bthen HB2.out hB4)
    have HE := Lib.hid hE
    clear hr4 hc4 hn4 hB4 hE hq
    by_cases heq : E = bs
    · obtain rfl : o = some l := by rw [HO.out]; unfold decZ; rw [← HRD.out]; simp only; rw [← HE.out, if_pos heq]
      have HEQ := Lib.hid heq
      clear heq HO
      go_wp2_with fail
      refine (equal_any A4 A q c4 n c E bs _ HR4.out (HA.out.keep (Nat.le_refl _) HB4.out) HQ.out HZ.out (by rw [HEQ.out]; exact HB.out) HB.out true (by simp [HEQ.out])).mono ?_
      rintro e w5 ⟨rfl, rfl⟩
      go_wp2_with fail
      go_ret2
      exact ⟨⟨A3, c3, by rw [← HM.out]; rfl, HR34.out, by rw [← HM.out]; exact HC3.out, HN3.out⟩, HB4.out⟩
    · obtain rfl : o = none := by rw [HO.out]; unfold decZ; rw [← HRD.out]; simp only; rw [← HE.out, if_neg heq]
      have HEQ := Lib.hid heq
      clear heq HO
      go_wp2_with fail
      refine (equal_any A4 A q c4 n c E bs _ HR4.out (HA.out.keep (Nat.le_refl _) HB4.out) HQ.out HZ.out (by rw [HE.out]; exact enc_byte) HB.out false (by simp [HEQ.out])).mono ?_
      rintro e w5 ⟨rfl, rfl⟩
      go_wp2_with fail
      go_ret2
      exact ⟨rfl, HB4.out⟩
end Go.Proofs.Ytedldajlioeioaa
