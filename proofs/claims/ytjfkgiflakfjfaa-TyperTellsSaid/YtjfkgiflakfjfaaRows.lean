/-
  NARROWER THAN 'FOR EVERY INPUT', by the rows' own cells (each row's printed sentence says how): TyperTells: loops · TyperUsed: loops · TyperFilter: loops.
  DERIVED. THE GIVEN ROWS OF THIS SEAT. 3 by the template 'for every input the law returns true; each argument reads behind the call as it read before'; 0 by the template 'total and deterministic' (their statements: YtjfkgiflakfjfaaTotals.lean).
  GIVEN WITH THE SEED: the statements are not yours to turn. If you find one false, say at which input.
  Laid BY PROGRAM, IN A SANDBOX (cutbox-rows.mjs): the forced cells as the released guide's own fill.sh prints them over the translation efdd02d2c768d81f… (all of the seat's roots in one cut). By AI agents, Wed Nov 11 2026. No macro, syntax, notation, axiom, sorry.
-/
import Derived.Test.YtjfkgiflakfjfaaChecked
import GoSem.Claim
import GoSem.ClaimJoined
import GoSem.ClaimMapViews
import Derived.JoinedTies
import Derived.KernelRfl
namespace Go.Proofs.Ytjfkgiflakfjfaa
/- THE CELL 'sum', in the pinned program and in every row, IS THE sha256 OF THE DUMP (.gsa) THAT YtjfkgiflakfjfaaProg.lean LOADS. Nothing in Lean hashes anything: it is a label: what it is worth is what the hold of that sum in a sandbox is worth. -/
noncomputable def Try.pinned : Pinned := { name := "ytjfkgiflakfjfaa", sum := "efdd02d2c768d81f647078bdda5e21cba8d383a274c1f4266d2d5406de8f3da1", checked := Try.checked }
namespace Rows
def none {H : Type} : Left H := { results := [], args := [] }

/-- 'columbarylaw23.TyperTells': WHATEVER THE INPUT: true; the input reads as it did. -/
def typerTellsSpec : ChangeSpec := { name := "typerTells", fn := fun _ => fun
  | [d1, d2, d3] => { results := [.lit (.bool true)], args := [d1, d2, d3] }
  | _ => none }
def typerTellsRow : OpenClaim := { program := "ytjfkgiflakfjfaa", sum := "efdd02d2c768d81f647078bdda5e21cba8d383a274c1f4266d2d5406de8f3da1", func := "columbary/columbarylaw23.TyperTells", spec := "typerTells", unfollowed := true, recurses := true, loops := true, apart := false }
def TyperTellsSaid : Prop := typerTellsRow.holds Try.pinned (OpenSpec.ofChange typerTellsSpec)

/-- ITS FALSE NEIGHBOUR: 'it returns false'. Refute it at one input. -/
def typerTellsWrong : ChangeSpec := { name := "typerTells", fn := fun _ => fun
  | [d1, d2, d3] => { results := [.lit (.bool false)], args := [d1, d2, d3] }
  | _ => none }
def TyperTellsWrongFalsely : Prop := typerTellsRow.holds Try.pinned (OpenSpec.ofChange typerTellsWrong)

/-- 'columbarylaw23.TyperUsed': WHATEVER THE INPUT: true; the input reads as it did. -/
def typerUsedSpec : ChangeSpec := { name := "typerUsed", fn := fun _ => fun
  | [d1, d2, d3] => { results := [.lit (.bool true)], args := [d1, d2, d3] }
  | _ => none }
def typerUsedRow : OpenClaim := { program := "ytjfkgiflakfjfaa", sum := "efdd02d2c768d81f647078bdda5e21cba8d383a274c1f4266d2d5406de8f3da1", func := "columbary/columbarylaw23.TyperUsed", spec := "typerUsed", unfollowed := true, recurses := true, loops := true, apart := false }
def TyperUsedSaid : Prop := typerUsedRow.holds Try.pinned (OpenSpec.ofChange typerUsedSpec)

/-- ITS FALSE NEIGHBOUR: 'it returns false'. Refute it at one input. -/
def typerUsedWrong : ChangeSpec := { name := "typerUsed", fn := fun _ => fun
  | [d1, d2, d3] => { results := [.lit (.bool false)], args := [d1, d2, d3] }
  | _ => none }
def TyperUsedWrongFalsely : Prop := typerUsedRow.holds Try.pinned (OpenSpec.ofChange typerUsedWrong)

/-- 'columbarylaw23.TyperFilter': WHATEVER THE INPUT: true; the input reads as it did. -/
def typerFilterSpec : ChangeSpec := { name := "typerFilter", fn := fun _ => fun
  | [d1, d2] => { results := [.lit (.bool true)], args := [d1, d2] }
  | _ => none }
def typerFilterRow : OpenClaim := { program := "ytjfkgiflakfjfaa", sum := "efdd02d2c768d81f647078bdda5e21cba8d383a274c1f4266d2d5406de8f3da1", func := "columbary/columbarylaw23.TyperFilter", spec := "typerFilter", unfollowed := true, recurses := true, loops := true, apart := false }
def TyperFilterSaid : Prop := typerFilterRow.holds Try.pinned (OpenSpec.ofChange typerFilterSpec)

/-- ITS FALSE NEIGHBOUR: 'it returns false'. Refute it at one input. -/
def typerFilterWrong : ChangeSpec := { name := "typerFilter", fn := fun _ => fun
  | [d1, d2] => { results := [.lit (.bool false)], args := [d1, d2] }
  | _ => none }
def TyperFilterWrongFalsely : Prop := typerFilterRow.holds Try.pinned (OpenSpec.ofChange typerFilterWrong)

/- THE SECOND FORM. 'bulk': how many values and letters a reading holds, each counted each time it is reached (what is shared counts as often as it is met; a slice's spare places count too). A statement '..UptoSaid' is the law's where the arguments, and the package variables that the reading takes, are together of bulk at most 1048576: NARROWER than '..Said'. Prove '..Said' where nothing that the law and all that it calls make is longer than what came in: it says more and counts as full. Else prove '..UptoSaid'. A law counts once. -/
mutual
def uptoBulk {H : Type} : DataW H → Nat
  | .lit (.string bytes) => bytes.length + 1
  | .lit _ => 1
  | .nil => 1
  | .ptr d => uptoBulk d + 1
  | .slice elems spare => uptoBulkAll elems + uptoBulkAll spare + 1
  | .agg parts => uptoBulkAll parts + 1
  | .iface _ d => uptoBulk d + 1
  | .map entries => uptoBulkEntries entries + 1
  | .held _ => 1
def uptoBulkAll {H : Type} : List (DataW H) → Nat
  | [] => 0
  | d :: r => uptoBulk d + uptoBulkAll r
def uptoBulkEntries {H : Type} : List (Lit × DataW H) → Nat
  | [] => 0
  | x :: r => uptoBulkEntry x + uptoBulkEntries r
def uptoBulkEntry {H : Type} : Lit × DataW H → Nat
  | (.string bytes, d) => bytes.length + uptoBulk d + 1
  | (_, d) => uptoBulk d + 1
 end
def uptoSmall : (H : Type) → List (DataW H) → Bool := fun _ ds => decide (uptoBulkAll ds ≤ 1048576)
def OpenSpec.upto (s : _root_.Go.ChangeSpec) : _root_.Go.OpenSpec := { _root_.Go.OpenSpec.ofChange s with cond := some uptoSmall }

/-- 'columbarylaw23.TyperTells', WHERE WHAT IT READS IS OF BULK AT MOST 1048576: true; the input reads as it did. -/
def typerTellsUptoRow : OpenClaim := { program := "ytjfkgiflakfjfaa", sum := "efdd02d2c768d81f647078bdda5e21cba8d383a274c1f4266d2d5406de8f3da1", func := "columbary/columbarylaw23.TyperTells", spec := "typerTells", unfollowed := true, recurses := true, loops := true, apart := false, narrowed := true }
def TyperTellsUptoSaid : Prop := typerTellsUptoRow.holds Try.pinned (OpenSpec.upto typerTellsSpec)

/-- 'columbarylaw23.TyperUsed', WHERE WHAT IT READS IS OF BULK AT MOST 1048576: true; the input reads as it did. -/
def typerUsedUptoRow : OpenClaim := { program := "ytjfkgiflakfjfaa", sum := "efdd02d2c768d81f647078bdda5e21cba8d383a274c1f4266d2d5406de8f3da1", func := "columbary/columbarylaw23.TyperUsed", spec := "typerUsed", unfollowed := true, recurses := true, loops := true, apart := false, narrowed := true }
def TyperUsedUptoSaid : Prop := typerUsedUptoRow.holds Try.pinned (OpenSpec.upto typerUsedSpec)

/-- 'columbarylaw23.TyperFilter', WHERE WHAT IT READS IS OF BULK AT MOST 1048576: true; the input reads as it did. -/
def typerFilterUptoRow : OpenClaim := { program := "ytjfkgiflakfjfaa", sum := "efdd02d2c768d81f647078bdda5e21cba8d383a274c1f4266d2d5406de8f3da1", func := "columbary/columbarylaw23.TyperFilter", spec := "typerFilter", unfollowed := true, recurses := true, loops := true, apart := false, narrowed := true }
def TyperFilterUptoSaid : Prop := typerFilterUptoRow.holds Try.pinned (OpenSpec.upto typerFilterSpec)

end Rows
end Go.Proofs.Ytjfkgiflakfjfaa
