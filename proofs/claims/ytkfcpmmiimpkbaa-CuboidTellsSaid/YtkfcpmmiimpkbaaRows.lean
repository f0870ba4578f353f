/-
  No cell of these rows narrows 'for every input' (looked for: loops, veiled, ifaces, maps, wideKeys, modest, calm, conditions, laid).
  DERIVED. THE GIVEN ROWS OF THIS SEAT. 3 by the template 'for every input the law returns true; each argument reads behind the call as it read before'; 0 by the template 'total and deterministic' (their statements: YtkfcpmmiimpkbaaTotals.lean).
  GIVEN WITH THE SEED: the statements are not yours to turn. If you find one false, say at which input.
  Laid BY PROGRAM, IN A SANDBOX (cutbox-rows.mjs): the forced cells as the released guide's own fill.sh prints them over the translation 7297d1352ae81757… (all of the seat's roots in one cut). By AI agents, Wed Nov 11 2026. No macro, syntax, notation, axiom, sorry.
-/
import Derived.Test.YtkfcpmmiimpkbaaChecked
import GoSem.Claim
import GoSem.ClaimJoined
import GoSem.ClaimMapViews
import Derived.JoinedTies
import Derived.KernelRfl
namespace Go.Proofs.Ytkfcpmmiimpkbaa
/- THE CELL 'sum', in the pinned program and in every row, IS THE sha256 OF THE DUMP (.gsa) THAT YtkfcpmmiimpkbaaProg.lean LOADS. Nothing in Lean hashes anything: it is a label: what it is worth is what the hold of that sum in a sandbox is worth. -/
noncomputable def Try.pinned : Pinned := { name := "ytkfcpmmiimpkbaa", sum := "7297d1352ae81757fb2a84fba6308d2da2d5203f6f105b3941967c660dd853ba", checked := Try.checked }
namespace Rows
def none {H : Type} : Left H := { results := [], args := [] }

/-- 'columbarylaw14.CuboidTells': WHATEVER THE INPUT: true; the input reads as it did. -/
def cuboidTellsSpec : ChangeSpec := { name := "cuboidTells", fn := fun _ => fun
  | [d1, d2, d3] => { results := [.lit (.bool true)], args := [d1, d2, d3] }
  | _ => none }
def cuboidTellsRow : OpenClaim := { program := "ytkfcpmmiimpkbaa", sum := "7297d1352ae81757fb2a84fba6308d2da2d5203f6f105b3941967c660dd853ba", func := "columbary/columbarylaw14.CuboidTells", spec := "cuboidTells", unfollowed := true, recurses := true, apart := false }
def CuboidTellsSaid : Prop := cuboidTellsRow.holds Try.pinned (OpenSpec.ofChange cuboidTellsSpec)

/-- ITS FALSE NEIGHBOUR: 'it returns false'. Refute it at one input. -/
def cuboidTellsWrong : ChangeSpec := { name := "cuboidTells", fn := fun _ => fun
  | [d1, d2, d3] => { results := [.lit (.bool false)], args := [d1, d2, d3] }
  | _ => none }
def CuboidTellsWrongFalsely : Prop := cuboidTellsRow.holds Try.pinned (OpenSpec.ofChange cuboidTellsWrong)

/-- 'columbarylaw14.CuboidSame': WHATEVER THE INPUT: true; the input reads as it did. -/
def cuboidSameSpec : ChangeSpec := { name := "cuboidSame", fn := fun _ => fun
  | [d1, d2, d3] => { results := [.lit (.bool true)], args := [d1, d2, d3] }
  | _ => none }
def cuboidSameRow : OpenClaim := { program := "ytkfcpmmiimpkbaa", sum := "7297d1352ae81757fb2a84fba6308d2da2d5203f6f105b3941967c660dd853ba", func := "columbary/columbarylaw14.CuboidSame", spec := "cuboidSame", unfollowed := true, recurses := true, apart := false }
def CuboidSameSaid : Prop := cuboidSameRow.holds Try.pinned (OpenSpec.ofChange cuboidSameSpec)

/-- ITS FALSE NEIGHBOUR: 'it returns false'. Refute it at one input. -/
def cuboidSameWrong : ChangeSpec := { name := "cuboidSame", fn := fun _ => fun
  | [d1, d2, d3] => { results := [.lit (.bool false)], args := [d1, d2, d3] }
  | _ => none }
def CuboidSameWrongFalsely : Prop := cuboidSameRow.holds Try.pinned (OpenSpec.ofChange cuboidSameWrong)

/-- 'columbarylaw14.CuboidParts': WHATEVER THE INPUT: true; the input reads as it did. -/
def cuboidPartsSpec : ChangeSpec := { name := "cuboidParts", fn := fun _ => fun
  | [d1, d2, d3] => { results := [.lit (.bool true)], args := [d1, d2, d3] }
  | _ => none }
def cuboidPartsRow : OpenClaim := { program := "ytkfcpmmiimpkbaa", sum := "7297d1352ae81757fb2a84fba6308d2da2d5203f6f105b3941967c660dd853ba", func := "columbary/columbarylaw14.CuboidParts", spec := "cuboidParts", unfollowed := true, recurses := true, apart := false }
def CuboidPartsSaid : Prop := cuboidPartsRow.holds Try.pinned (OpenSpec.ofChange cuboidPartsSpec)

/-- ITS FALSE NEIGHBOUR: 'it returns false'. Refute it at one input. -/
def cuboidPartsWrong : ChangeSpec := { name := "cuboidParts", fn := fun _ => fun
  | [d1, d2, d3] => { results := [.lit (.bool false)], args := [d1, d2, d3] }
  | _ => none }
def CuboidPartsWrongFalsely : Prop := cuboidPartsRow.holds Try.pinned (OpenSpec.ofChange cuboidPartsWrong)

/- THE SECOND FORM. 'bulk': how many values and letters a reading holds, each counted each time it is reached (what is shared counts as often as it is met; a slice's spare places count too). A statement '..UptoSaid' is the law's where the arguments, and the package variables that the reading takes, are together of bulk at most 1048576: NARROWER than '..Said'. Prove '..Said' where nothing that the law and all that it calls make is longer than what came in: it says more and counts as full. Else prove '..UptoSaid'. A law counts once. -/
mutual
def uptoBulk {H : Type} : DataW H → Nat
  | .lit (.string bytes) => bytes.length + 1
  | .lit _ => 1
  | .nil => 1
  | .ptr d => uptoBulk d + 1
  | .slice elems spare => uptoBulkAll elems + uptoBulkAll spare + 1
  | .agg parts => uptoBulkAll parts + 1
  | .iface _ d => uptoBulk d + 1
  | .map entries => uptoBulkEntries entries + 1
  | .held _ => 1
def uptoBulkAll {H : Type} : List (DataW H) → Nat
  | [] => 0
  | d :: r => uptoBulk d + uptoBulkAll r
def uptoBulkEntries {H : Type} : List (Lit × DataW H) → Nat
  | [] => 0
  | x :: r => uptoBulkEntry x + uptoBulkEntries r
def uptoBulkEntry {H : Type} : Lit × DataW H → Nat
  | (.string bytes, d) => bytes.length + uptoBulk d + 1
  | (_, d) => uptoBulk d + 1
 end
def uptoSmall : (H : Type) → List (DataW H) → Bool := fun _ ds => decide (uptoBulkAll ds ≤ 1048576)
def OpenSpec.upto (s : _root_.Go.ChangeSpec) : _root_.Go.OpenSpec := { _root_.Go.OpenSpec.ofChange s with cond := some uptoSmall }

/-- 'columbarylaw14.CuboidTells', WHERE WHAT IT READS IS OF BULK AT MOST 1048576: true; the input reads as it did. -/
def cuboidTellsUptoRow : OpenClaim := { program := "ytkfcpmmiimpkbaa", sum := "7297d1352ae81757fb2a84fba6308d2da2d5203f6f105b3941967c660dd853ba", func := "columbary/columbarylaw14.CuboidTells", spec := "cuboidTells", unfollowed := true, recurses := true, apart := false, narrowed := true }
def CuboidTellsUptoSaid : Prop := cuboidTellsUptoRow.holds Try.pinned (OpenSpec.upto cuboidTellsSpec)

/-- 'columbarylaw14.CuboidSame', WHERE WHAT IT READS IS OF BULK AT MOST 1048576: true; the input reads as it did. -/
def cuboidSameUptoRow : OpenClaim := { program := "ytkfcpmmiimpkbaa", sum := "7297d1352ae81757fb2a84fba6308d2da2d5203f6f105b3941967c660dd853ba", func := "columbary/columbarylaw14.CuboidSame", spec := "cuboidSame", unfollowed := true, recurses := true, apart := false, narrowed := true }
def CuboidSameUptoSaid : Prop := cuboidSameUptoRow.holds Try.pinned (OpenSpec.upto cuboidSameSpec)

/-- 'columbarylaw14.CuboidParts', WHERE WHAT IT READS IS OF BULK AT MOST 1048576: true; the input reads as it did. -/
def cuboidPartsUptoRow : OpenClaim := { program := "ytkfcpmmiimpkbaa", sum := "7297d1352ae81757fb2a84fba6308d2da2d5203f6f105b3941967c660dd853ba", func := "columbary/columbarylaw14.CuboidParts", spec := "cuboidParts", unfollowed := true, recurses := true, apart := false, narrowed := true }
def CuboidPartsUptoSaid : Prop := cuboidPartsUptoRow.holds Try.pinned (OpenSpec.upto cuboidPartsSpec)

end Rows
end Go.Proofs.Ytkfcpmmiimpkbaa
