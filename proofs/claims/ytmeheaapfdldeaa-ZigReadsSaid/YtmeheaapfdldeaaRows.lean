/-
  No cell of these rows narrows 'for every input' (looked for: loops, veiled, ifaces, maps, wideKeys, modest, calm, conditions, laid).
  DERIVED. THE GIVEN ROWS OF THIS SEAT. 7 by the template 'for every input the law returns true; each argument reads behind the call as it read before'; 0 by the template 'total and deterministic' (their statements: YtmeheaapfdldeaaTotals.lean).
  GIVEN WITH THE SEED: the statements are not yours to turn. If you find one false, say at which input.
  Laid BY PROGRAM, IN A SANDBOX (cutbox-rows.mjs): the forced cells as the released guide's own fill.sh prints them over the translation 5bee801460f05e5a… (all of the seat's roots in one cut). By AI agents, Wed Nov 11 2026. No macro, syntax, notation, axiom, sorry.
-/
import Derived.Test.YtmeheaapfdldeaaChecked
import GoSem.Claim
import GoSem.ClaimJoined
import GoSem.ClaimMapViews
import Derived.JoinedTies
import Derived.KernelRfl
namespace Go.Proofs.Ytmeheaapfdldeaa
/- THE CELL 'sum', in the pinned program and in every row, IS THE sha256 OF THE DUMP (.gsa) THAT YtmeheaapfdldeaaProg.lean LOADS. Nothing in Lean hashes anything: it is a label: what it is worth is what the hold of that sum in a sandbox is worth. -/
noncomputable def Try.pinned : Pinned := { name := "ytmeheaapfdldeaa", sum := "5bee801460f05e5a2b9861b7807dcdb4bb12945cc9d3124e4c5a56f857c54ca4", checked := Try.checked }
namespace Rows
def none {H : Type} : Left H := { results := [], args := [] }

/-- 'columbarylaw01.ZigFolds': WHATEVER THE INPUT: true; the input reads as it did. -/
def zigFoldsSpec : ChangeSpec := { name := "zigFolds", fn := fun _ => fun
  | [d1, d2] => { results := [.lit (.bool true)], args := [d1, d2] }
  | _ => none }
def zigFoldsRow : OpenClaim := { program := "ytmeheaapfdldeaa", sum := "5bee801460f05e5a2b9861b7807dcdb4bb12945cc9d3124e4c5a56f857c54ca4", func := "columbary/columbarylaw01.ZigFolds", spec := "zigFolds", apart := false }
def ZigFoldsSaid : Prop := zigFoldsRow.holds Try.pinned (OpenSpec.ofChange zigFoldsSpec)

/-- ITS FALSE NEIGHBOUR: 'it returns false'. Refute it at one input. -/
def zigFoldsWrong : ChangeSpec := { name := "zigFolds", fn := fun _ => fun
  | [d1, d2] => { results := [.lit (.bool false)], args := [d1, d2] }
  | _ => none }
def ZigFoldsWrongFalsely : Prop := zigFoldsRow.holds Try.pinned (OpenSpec.ofChange zigFoldsWrong)

/-- 'columbarylaw01.ZigWrites': WHATEVER THE INPUT: true; the input reads as it did. -/
def zigWritesSpec : ChangeSpec := { name := "zigWrites", fn := fun _ => fun
  | [d] => { results := [.lit (.bool true)], args := [d] }
  | _ => none }
def zigWritesRow : OpenClaim := { program := "ytmeheaapfdldeaa", sum := "5bee801460f05e5a2b9861b7807dcdb4bb12945cc9d3124e4c5a56f857c54ca4", func := "columbary/columbarylaw01.ZigWrites", spec := "zigWrites", apart := false }
def ZigWritesSaid : Prop := zigWritesRow.holds Try.pinned (OpenSpec.ofChange zigWritesSpec)

/-- ITS FALSE NEIGHBOUR: 'it returns false'. Refute it at one input. -/
def zigWritesWrong : ChangeSpec := { name := "zigWrites", fn := fun _ => fun
  | [d] => { results := [.lit (.bool false)], args := [d] }
  | _ => none }
def ZigWritesWrongFalsely : Prop := zigWritesRow.holds Try.pinned (OpenSpec.ofChange zigWritesWrong)

/-- 'columbarylaw01.ZigReads': WHATEVER THE INPUT: true; the input reads as it did. -/
def zigReadsSpec : ChangeSpec := { name := "zigReads", fn := fun _ => fun
  | [d1, d2] => { results := [.lit (.bool true)], args := [d1, d2] }
  | _ => none }
def zigReadsRow : OpenClaim := { program := "ytmeheaapfdldeaa", sum := "5bee801460f05e5a2b9861b7807dcdb4bb12945cc9d3124e4c5a56f857c54ca4", func := "columbary/columbarylaw01.ZigReads", spec := "zigReads", apart := false }
def ZigReadsSaid : Prop := zigReadsRow.holds Try.pinned (OpenSpec.ofChange zigReadsSpec)

/-- ITS FALSE NEIGHBOUR: 'it returns false'. Refute it at one input. -/
def zigReadsWrong : ChangeSpec := { name := "zigReads", fn := fun _ => fun
  | [d1, d2] => { results := [.lit (.bool false)], args := [d1, d2] }
  | _ => none }
def ZigReadsWrongFalsely : Prop := zigReadsRow.holds Try.pinned (OpenSpec.ofChange zigReadsWrong)

/-- 'columbarylaw01.ZigBack': WHATEVER THE INPUT: true; the input reads as it did. -/
def zigBackSpec : ChangeSpec := { name := "zigBack", fn := fun _ => fun
  | [d1, d2] => { results := [.lit (.bool true)], args := [d1, d2] }
  | _ => none }
def zigBackRow : OpenClaim := { program := "ytmeheaapfdldeaa", sum := "5bee801460f05e5a2b9861b7807dcdb4bb12945cc9d3124e4c5a56f857c54ca4", func := "columbary/columbarylaw01.ZigBack", spec := "zigBack", apart := false }
def ZigBackSaid : Prop := zigBackRow.holds Try.pinned (OpenSpec.ofChange zigBackSpec)

/-- ITS FALSE NEIGHBOUR: 'it returns false'. Refute it at one input. -/
def zigBackWrong : ChangeSpec := { name := "zigBack", fn := fun _ => fun
  | [d1, d2] => { results := [.lit (.bool false)], args := [d1, d2] }
  | _ => none }
def ZigBackWrongFalsely : Prop := zigBackRow.holds Try.pinned (OpenSpec.ofChange zigBackWrong)

/-- 'columbarylaw01.ZigOrder': WHATEVER THE INPUT: true; the input reads as it did. -/
def zigOrderSpec : ChangeSpec := { name := "zigOrder", fn := fun _ => fun
  | [d1, d2] => { results := [.lit (.bool true)], args := [d1, d2] }
  | _ => none }
def zigOrderRow : OpenClaim := { program := "ytmeheaapfdldeaa", sum := "5bee801460f05e5a2b9861b7807dcdb4bb12945cc9d3124e4c5a56f857c54ca4", func := "columbary/columbarylaw01.ZigOrder", spec := "zigOrder", apart := false }
def ZigOrderSaid : Prop := zigOrderRow.holds Try.pinned (OpenSpec.ofChange zigOrderSpec)

/-- ITS FALSE NEIGHBOUR: 'it returns false'. Refute it at one input. -/
def zigOrderWrong : ChangeSpec := { name := "zigOrder", fn := fun _ => fun
  | [d1, d2] => { results := [.lit (.bool false)], args := [d1, d2] }
  | _ => none }
def ZigOrderWrongFalsely : Prop := zigOrderRow.holds Try.pinned (OpenSpec.ofChange zigOrderWrong)

/-- 'columbarylaw01.ZigNil': WHATEVER THE INPUT: true; the input reads as it did. -/
def zigNilSpec : ChangeSpec := { name := "zigNil", fn := fun _ => fun
  | [d] => { results := [.lit (.bool true)], args := [d] }
  | _ => none }
def zigNilRow : OpenClaim := { program := "ytmeheaapfdldeaa", sum := "5bee801460f05e5a2b9861b7807dcdb4bb12945cc9d3124e4c5a56f857c54ca4", func := "columbary/columbarylaw01.ZigNil", spec := "zigNil", apart := false }
def ZigNilSaid : Prop := zigNilRow.holds Try.pinned (OpenSpec.ofChange zigNilSpec)

/-- ITS FALSE NEIGHBOUR: 'it returns false'. Refute it at one input. -/
def zigNilWrong : ChangeSpec := { name := "zigNil", fn := fun _ => fun
  | [d] => { results := [.lit (.bool false)], args := [d] }
  | _ => none }
def ZigNilWrongFalsely : Prop := zigNilRow.holds Try.pinned (OpenSpec.ofChange zigNilWrong)

/-- 'columbarylaw01.ZigLengths': WHATEVER THE INPUT: true; the input reads as it did. -/
def zigLengthsSpec : ChangeSpec := { name := "zigLengths", fn := fun _ => fun
  | [d1, d2] => { results := [.lit (.bool true)], args := [d1, d2] }
  | _ => none }
def zigLengthsRow : OpenClaim := { program := "ytmeheaapfdldeaa", sum := "5bee801460f05e5a2b9861b7807dcdb4bb12945cc9d3124e4c5a56f857c54ca4", func := "columbary/columbarylaw01.ZigLengths", spec := "zigLengths", apart := false }
def ZigLengthsSaid : Prop := zigLengthsRow.holds Try.pinned (OpenSpec.ofChange zigLengthsSpec)

/-- ITS FALSE NEIGHBOUR: 'it returns false'. Refute it at one input. -/
def zigLengthsWrong : ChangeSpec := { name := "zigLengths", fn := fun _ => fun
  | [d1, d2] => { results := [.lit (.bool false)], args := [d1, d2] }
  | _ => none }
def ZigLengthsWrongFalsely : Prop := zigLengthsRow.holds Try.pinned (OpenSpec.ofChange zigLengthsWrong)

/- THE SECOND FORM. 'bulk': how many values and letters a reading holds, each counted each time it is reached (what is shared counts as often as it is met; a slice's spare places count too). A statement '..UptoSaid' is the law's where the arguments, and the package variables that the reading takes, are together of bulk at most 1048576: NARROWER than '..Said'. Prove '..Said' where nothing that the law and all that it calls make is longer than what came in: it says more and counts as full. Else prove '..UptoSaid'. A law counts once. -/
mutual
def uptoBulk {H : Type} : DataW H → Nat
  | .lit (.string bytes) => bytes.length + 1
  | .lit _ => 1
  | .nil => 1
  | .ptr d => uptoBulk d + 1
  | .slice elems spare => uptoBulkAll elems + uptoBulkAll spare + 1
  | .agg parts => uptoBulkAll parts + 1
  | .iface _ d => uptoBulk d + 1
  | .map entries => uptoBulkEntries entries + 1
  | .held _ => 1
def uptoBulkAll {H : Type} : List (DataW H) → Nat
  | [] => 0
  | d :: r => uptoBulk d + uptoBulkAll r
def uptoBulkEntries {H : Type} : List (Lit × DataW H) → Nat
  | [] => 0
  | x :: r => uptoBulkEntry x + uptoBulkEntries r
def uptoBulkEntry {H : Type} : Lit × DataW H → Nat
  | (.string bytes, d) => bytes.length + uptoBulk d + 1
  | (_, d) => uptoBulk d + 1
 end
def uptoSmall : (H : Type) → List (DataW H) → Bool := fun _ ds => decide (uptoBulkAll ds ≤ 1048576)
def OpenSpec.upto (s : _root_.Go.ChangeSpec) : _root_.Go.OpenSpec := { _root_.Go.OpenSpec.ofChange s with cond := some uptoSmall }

/-- 'columbarylaw01.ZigFolds', WHERE WHAT IT READS IS OF BULK AT MOST 1048576: true; the input reads as it did. -/
def zigFoldsUptoRow : OpenClaim := { program := "ytmeheaapfdldeaa", sum := "5bee801460f05e5a2b9861b7807dcdb4bb12945cc9d3124e4c5a56f857c54ca4", func := "columbary/columbarylaw01.ZigFolds", spec := "zigFolds", apart := false, narrowed := true }
def ZigFoldsUptoSaid : Prop := zigFoldsUptoRow.holds Try.pinned (OpenSpec.upto zigFoldsSpec)

/-- 'columbarylaw01.ZigWrites', WHERE WHAT IT READS IS OF BULK AT MOST 1048576: true; the input reads as it did. -/
def zigWritesUptoRow : OpenClaim := { program := "ytmeheaapfdldeaa", sum := "5bee801460f05e5a2b9861b7807dcdb4bb12945cc9d3124e4c5a56f857c54ca4", func := "columbary/columbarylaw01.ZigWrites", spec := "zigWrites", apart := false, narrowed := true }
def ZigWritesUptoSaid : Prop := zigWritesUptoRow.holds Try.pinned (OpenSpec.upto zigWritesSpec)

/-- 'columbarylaw01.ZigReads', WHERE WHAT IT READS IS OF BULK AT MOST 1048576: true; the input reads as it did. -/
def zigReadsUptoRow : OpenClaim := { program := "ytmeheaapfdldeaa", sum := "5bee801460f05e5a2b9861b7807dcdb4bb12945cc9d3124e4c5a56f857c54ca4", func := "columbary/columbarylaw01.ZigReads", spec := "zigReads", apart := false, narrowed := true }
def ZigReadsUptoSaid : Prop := zigReadsUptoRow.holds Try.pinned (OpenSpec.upto zigReadsSpec)

/-- 'columbarylaw01.ZigBack', WHERE WHAT IT READS IS OF BULK AT MOST 1048576: true; the input reads as it did. -/
def zigBackUptoRow : OpenClaim := { program := "ytmeheaapfdldeaa", sum := "5bee801460f05e5a2b9861b7807dcdb4bb12945cc9d3124e4c5a56f857c54ca4", func := "columbary/columbarylaw01.ZigBack", spec := "zigBack", apart := false, narrowed := true }
def ZigBackUptoSaid : Prop := zigBackUptoRow.holds Try.pinned (OpenSpec.upto zigBackSpec)

/-- 'columbarylaw01.ZigOrder', WHERE WHAT IT READS IS OF BULK AT MOST 1048576: true; the input reads as it did. -/
def zigOrderUptoRow : OpenClaim := { program := "ytmeheaapfdldeaa", sum := "5bee801460f05e5a2b9861b7807dcdb4bb12945cc9d3124e4c5a56f857c54ca4", func := "columbary/columbarylaw01.ZigOrder", spec := "zigOrder", apart := false, narrowed := true }
def ZigOrderUptoSaid : Prop := zigOrderUptoRow.holds Try.pinned (OpenSpec.upto zigOrderSpec)

/-- 'columbarylaw01.ZigNil', WHERE WHAT IT READS IS OF BULK AT MOST 1048576: true; the input reads as it did. -/
def zigNilUptoRow : OpenClaim := { program := "ytmeheaapfdldeaa", sum := "5bee801460f05e5a2b9861b7807dcdb4bb12945cc9d3124e4c5a56f857c54ca4", func := "columbary/columbarylaw01.ZigNil", spec := "zigNil", apart := false, narrowed := true }
def ZigNilUptoSaid : Prop := zigNilUptoRow.holds Try.pinned (OpenSpec.upto zigNilSpec)

/-- 'columbarylaw01.ZigLengths', WHERE WHAT IT READS IS OF BULK AT MOST 1048576: true; the input reads as it did. -/
def zigLengthsUptoRow : OpenClaim := { program := "ytmeheaapfdldeaa", sum := "5bee801460f05e5a2b9861b7807dcdb4bb12945cc9d3124e4c5a56f857c54ca4", func := "columbary/columbarylaw01.ZigLengths", spec := "zigLengths", apart := false, narrowed := true }
def ZigLengthsUptoSaid : Prop := zigLengthsUptoRow.holds Try.pinned (OpenSpec.upto zigLengthsSpec)

end Rows
end Go.Proofs.Ytmeheaapfdldeaa
