/- The reserved words. -/
import Derived.Test.YtbecgknahhhfiaaD
namespace Go.Proofs.Ytbecgknahhhfiaa
open Go.RowKit
set_option linter.unusedSimpArgs false
set_option linter.unusedVariables false
theorem str_ne_lit {s : ByteArray} {l : List UInt8} (h : s ≠ ⟨l.toArray⟩) : (s.toList == l) = false := by
  have h1 := str_ne h
  rw [ByteArray.toList_eq ⟨l.toArray⟩] at h1
  exact h1
def wordsL : List ByteArray := [⟨#[99, 111, 117, 110, 116]⟩, ⟨#[115, 117, 109]⟩, ⟨#[109, 105, 110]⟩, ⟨#[109, 97, 120]⟩, ⟨#[102, 114, 111, 109]⟩, ⟨#[116, 111]⟩, ⟨#[98, 121]⟩, ⟨#[101, 118, 101, 114, 121]⟩, ⟨#[119, 104, 101, 114, 101]⟩, ⟨#[104, 97, 118, 105, 110, 103]⟩, ⟨#[111, 114, 100, 101, 114]⟩, ⟨#[108, 105, 109, 105, 116]⟩, ⟨#[97, 110, 100]⟩, ⟨#[111, 114]⟩, ⟨#[110, 111, 116]⟩, ⟨#[105, 115]⟩, ⟨#[110, 117, 108, 108]⟩, ⟨#[97, 115, 99]⟩, ⟨#[100, 101, 115, 99]⟩, ⟨#[115, 101, 108, 101, 99, 116]⟩]
set_option maxRecDepth 100000 in
set_option maxHeartbeats 4000000 in
theorem reserved_any (s : ByteArray) (w : World) (r : Bool) (hr : r = true ↔ s ∈ wordsL) :
    Calls Try.prog 29 #[.string s] w fun e w' => e = .returned (.bool r) ∧ w = w' := by
  by_cases h0 : s = ⟨#[99, 111, 117, 110, 116]⟩
  · obtain rfl : r = true := hr.2 (by rw [h0]; exact List.mem_of_getElem? (i := 0) rfl)
    subst h0
    clear hr
    go_enter Try.func29, Try.ntmps29
    go_wp2_with fail
    go_ret
    exact ⟨rfl, rfl⟩
  by_cases h1 : s = ⟨#[115, 117, 109]⟩
  · obtain rfl : r = true := hr.2 (by rw [h1]; exact List.mem_of_getElem? (i := 1) rfl)
    subst h1
    clear hr
    clear h0
    go_enter Try.func29, Try.ntmps29
    go_wp2_with fail
    go_ret
    exact ⟨rfl, rfl⟩
  by_cases h2 : s = ⟨#[109, 105, 110]⟩
  · obtain rfl : r = true := hr.2 (by rw [h2]; exact List.mem_of_getElem? (i := 2) rfl)
    subst h2
    clear hr
    clear h0 h1
    go_enter Try.func29, Try.ntmps29
    go_wp2_with fail
    go_ret
    exact ⟨rfl, rfl⟩
  by_cases h3 : s = ⟨#[109, 97, 120]⟩
  · obtain rfl : r = true := hr.2 (by rw [h3]; exact List.mem_of_getElem? (i := 3) rfl)
    subst h3
    clear hr
    clear h0 h1 h2
    go_enter Try.func29, Try.ntmps29
    go_wp2_with fail
    go_ret
    exact ⟨rfl, rfl⟩
  by_cases h4 : s = ⟨#[102, 114, 111, 109]⟩
  · obtain rfl : r = true := hr.2 (by rw [h4]; exact List.mem_of_getElem? (i := 4) rfl)
    subst h4
    clear hr
    clear h0 h1 h2 h3
    go_enter Try.func29, Try.ntmps29
    go_wp2_with fail
    go_ret
    exact ⟨rfl, rfl⟩
  by_cases h5 : s = ⟨#[116, 111]⟩
  · obtain rfl : r = true := hr.2 (by rw [h5]; exact List.mem_of_getElem? (i := 5) rfl)
    subst h5
    clear hr
    clear h0 h1 h2 h3 h4
    go_enter Try.func29, Try.ntmps29
    go_wp2_with fail
    go_ret
    exact ⟨rfl, rfl⟩
  by_cases h6 : s = ⟨#[98, 121]⟩
  · obtain rfl : r = true := hr.2 (by rw [h6]; exact List.mem_of_getElem? (i := 6) rfl)
    subst h6
    clear hr
    clear h0 h1 h2 h3 h4 h5
    go_enter Try.func29, Try.ntmps29
    go_wp2_with fail
    go_ret
    exact ⟨rfl, rfl⟩
  by_cases h7 : s = ⟨#[101, 118, 101, 114, 121]⟩
  · obtain rfl : r = true := hr.2 (by rw [h7]; exact List.mem_of_getElem? (i := 7) rfl)
    subst h7
    clear hr
    clear h0 h1 h2 h3 h4 h5 h6
    go_enter Try.func29, Try.ntmps29
    go_wp2_with fail
    go_ret
    exact ⟨rfl, rfl⟩
  by_cases h8 : s = ⟨#[119, 104, 101, 114, 101]⟩
  · obtain rfl : r = true := hr.2 (by rw [h8]; exact List.mem_of_getElem? (i := 8) rfl)
    subst h8
    clear hr
    clear h0 h1 h2 h3 h4 h5 h6 h7
    go_enter Try.func29, Try.ntmps29
    go_wp2_with fail
    go_ret
    exact ⟨rfl, rfl⟩
  by_cases h9 : s = ⟨#[104, 97, 118, 105, 110, 103]⟩
  · obtain rfl : r = true := hr.2 (by rw [h9]; exact List.mem_of_getElem? (i := 9) rfl)
    subst h9
    clear hr
    clear h0 h1 h2 h3 h4 h5 h6 h7 h8
    go_enter Try.func29, Try.ntmps29
    go_wp2_with fail
    go_ret
    exact ⟨rfl, rfl⟩
  by_cases h10 : s = ⟨#[111, 114, 100, 101, 114]⟩
  · obtain rfl : r = true := hr.2 (by rw [h10]; exact List.mem_of_getElem? (i := 10) rfl)
    subst h10
    clear hr
    clear h0 h1 h2 h3 h4 h5 h6 h7 h8 h9
    go_enter Try.func29, Try.ntmps29
    go_wp2_with fail
    go_ret
    exact ⟨rfl, rfl⟩
  by_cases h11 : s = ⟨#[108, 105, 109, 105, 116]⟩
  · obtain rfl : r = true := hr.2 (by rw [h11]; exact List.mem_of_getElem? (i := 11) rfl)
    subst h11
    clear hr
    clear h0 h1 h2 h3 h4 h5 h6 h7 h8 h9 h10
    go_enter Try.func29, Try.ntmps29
    go_wp2_with fail
    go_ret
    exact ⟨rfl, rfl⟩
  by_cases h12 : s = ⟨#[97, 110, 100]⟩
  · obtain rfl : r = true := hr.2 (by rw [h12]; exact List.mem_of_getElem? (i := 12) rfl)
    subst h12
    clear hr
    clear h0 h1 h2 h3 h4 h5 h6 h7 h8 h9 h10 h11
    go_enter Try.func29, Try.ntmps29
    go_wp2_with fail
    go_ret
    exact ⟨rfl, rfl⟩
  by_cases h13 : s = ⟨#[111, 114]⟩
  · obtain rfl : r = true := hr.2 (by rw [h13]; exact List.mem_of_getElem? (i := 13) rfl)
    subst h13
    clear hr
    clear h0 h1 h2 h3 h4 h5 h6 h7 h8 h9 h10 h11 h12
    go_enter Try.func29, Try.ntmps29
    go_wp2_with fail
    go_ret
    exact ⟨rfl, rfl⟩
  by_cases h14 : s = ⟨#[110, 111, 116]⟩
  · obtain rfl : r = true := hr.2 (by rw [h14]; exact List.mem_of_getElem? (i := 14) rfl)
    subst h14
    clear hr
    clear h0 h1 h2 h3 h4 h5 h6 h7 h8 h9 h10 h11 h12 h13
    go_enter Try.func29, Try.ntmps29
    go_wp2_with fail
    go_ret
    exact ⟨rfl, rfl⟩
  by_cases h15 : s = ⟨#[105, 115]⟩
  · obtain rfl : r = true := hr.2 (by rw [h15]; exact List.mem_of_getElem? (i := 15) rfl)
    subst h15
    clear hr
    clear h0 h1 h2 h3 h4 h5 h6 h7 h8 h9 h10 h11 h12 h13 h14
    go_enter Try.func29, Try.ntmps29
    go_wp2_with fail
    go_ret
    exact ⟨rfl, rfl⟩
  by_cases h16 : s = ⟨#[110, 117, 108, 108]⟩
  · obtain rfl : r = true := hr.2 (by rw [h16]; exact List.mem_of_getElem? (i := 16) rfl)
    subst h16
    clear hr
    clear h0 h1 h2 h3 h4 h5 h6 h7 h8 h9 h10 h11 h12 h13 h14 h15
    go_enter Try.func29, Try.ntmps29
    go_wp2_with fail
    go_ret
    exact ⟨rfl, rfl⟩
  by_cases h17 : s = ⟨#[97, 115, 99]⟩
  · obtain rfl : r = true := hr.2 (by rw [h17]; exact List.mem_of_getElem? (i := 17) rfl)
    subst h17
    clear hr
    clear h0 h1 h2 h3 h4 h5 h6 h7 h8 h9 h10 h11 h12 h13 h14 h15 h16
    go_enter Try.func29, Try.ntmps29
    go_wp2_with fail
    go_ret
    exact ⟨rfl, rfl⟩
  by_cases h18 : s = ⟨#[100, 101, 115, 99]⟩
  · obtain rfl : r = true := hr.2 (by rw [h18]; exact List.mem_of_getElem? (i := 18) rfl)
    subst h18
    clear hr
    clear h0 h1 h2 h3 h4 h5 h6 h7 h8 h9 h10 h11 h12 h13 h14 h15 h16 h17
    go_enter Try.func29, Try.ntmps29
    go_wp2_with fail
    go_ret
    exact ⟨rfl, rfl⟩
  by_cases h19 : s = ⟨#[115, 101, 108, 101, 99, 116]⟩
  · obtain rfl : r = true := hr.2 (by rw [h19]; exact List.mem_of_getElem? (i := 19) rfl)
    subst h19
    clear hr
    clear h0 h1 h2 h3 h4 h5 h6 h7 h8 h9 h10 h11 h12 h13 h14 h15 h16 h17 h18
    go_enter Try.func29, Try.ntmps29
    go_wp2_with fail
    go_ret
    exact ⟨rfl, rfl⟩
  obtain rfl : r = false := by
    cases r with
    | false => rfl
    | true => have := hr.1 rfl; simp [wordsL, h0, h1, h2, h3, h4, h5, h6, h7, h8, h9, h10, h11, h12, h13, h14, h15, h16, h17, h18, h19] at this
  have k0 := str_ne_lit h0
  have k1 := str_ne_lit h1
  have k2 := str_ne_lit h2
  have k3 := str_ne_lit h3
  have k4 := str_ne_lit h4
  have k5 := str_ne_lit h5
  have k6 := str_ne_lit h6
  have k7 := str_ne_lit h7
  have k8 := str_ne_lit h8
  have k9 := str_ne_lit h9
  have k10 := str_ne_lit h10
  have k11 := str_ne_lit h11
  have k12 := str_ne_lit h12
  have k13 := str_ne_lit h13
  have k14 := str_ne_lit h14
  have k15 := str_ne_lit h15
  have k16 := str_ne_lit h16
  have k17 := str_ne_lit h17
  have k18 := str_ne_lit h18
  have k19 := str_ne_lit h19
  clear hr h0 h1 h2 h3 h4 h5 h6 h7 h8 h9 h10 h11 h12 h13 h14 h15 h16 h17 h18 h19
  go_enter Try.func29, Try.ntmps29
  go_wp2_with fail
  go_ret
  exact ⟨rfl, rfl⟩
end Go.Proofs.Ytbecgknahhhfiaa
