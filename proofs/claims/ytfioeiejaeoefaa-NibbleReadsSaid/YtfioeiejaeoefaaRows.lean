/-
  No cell of these rows narrows 'for every input' (looked for: loops, veiled, ifaces, maps, wideKeys, modest, calm, conditions, laid).
  DERIVED. THE GIVEN ROWS OF THIS SEAT. 5 by the template 'for every input the law returns true; each argument reads behind the call as it read before'; 0 by the template 'total and deterministic' (their statements: YtfioeiejaeoefaaTotals.lean).
  GIVEN WITH THE SEED: the statements are not yours to turn. If you find one false, say at which input.
  Laid BY PROGRAM, IN A SANDBOX (cutbox-rows.mjs): the forced cells as the released guide's own fill.sh prints them over the translation ed4f8c5292dd2bb1… (all of the seat's roots in one cut). By AI agents, Wed Nov 11 2026. No macro, syntax, notation, axiom, sorry.
-/
import Derived.Test.YtfioeiejaeoefaaChecked
import GoSem.Claim
import GoSem.ClaimJoined
import GoSem.ClaimMapViews
import Derived.JoinedTies
import Derived.KernelRfl
namespace Go.Proofs.Ytfioeiejaeoefaa
/- THE CELL 'sum', in the pinned program and in every row, IS THE sha256 OF THE DUMP (.gsa) THAT YtfioeiejaeoefaaProg.lean LOADS. Nothing in Lean hashes anything: it is a label: what it is worth is what the hold of that sum in a sandbox is worth. -/
noncomputable def Try.pinned : Pinned := { name := "ytfioeiejaeoefaa", sum := "ed4f8c5292dd2bb1e55c69e88261c1728e49374b4930c702b7c88e866f561169", checked := Try.checked }
namespace Rows
def none {H : Type} : Left H := { results := [], args := [] }

/-- 'columbarylaw07.NibbleTells': WHATEVER THE INPUT: true; the input reads as it did. -/
def nibbleTellsSpec : ChangeSpec := { name := "nibbleTells", fn := fun _ => fun
  | [d1, d2, d3] => { results := [.lit (.bool true)], args := [d1, d2, d3] }
  | _ => none }
def nibbleTellsRow : OpenClaim := { program := "ytfioeiejaeoefaa", sum := "ed4f8c5292dd2bb1e55c69e88261c1728e49374b4930c702b7c88e866f561169", func := "columbary/columbarylaw07.NibbleTells", spec := "nibbleTells", unfollowed := true, recurses := true, apart := false }
def NibbleTellsSaid : Prop := nibbleTellsRow.holds Try.pinned (OpenSpec.ofChange nibbleTellsSpec)

/-- ITS FALSE NEIGHBOUR: 'it returns false'. Refute it at one input. -/
def nibbleTellsWrong : ChangeSpec := { name := "nibbleTells", fn := fun _ => fun
  | [d1, d2, d3] => { results := [.lit (.bool false)], args := [d1, d2, d3] }
  | _ => none }
def NibbleTellsWrongFalsely : Prop := nibbleTellsRow.holds Try.pinned (OpenSpec.ofChange nibbleTellsWrong)

/-- 'columbarylaw07.NibbleReads': WHATEVER THE INPUT: true; the input reads as it did. -/
def nibbleReadsSpec : ChangeSpec := { name := "nibbleReads", fn := fun _ => fun
  | [d1, d2, d3] => { results := [.lit (.bool true)], args := [d1, d2, d3] }
  | _ => none }
def nibbleReadsRow : OpenClaim := { program := "ytfioeiejaeoefaa", sum := "ed4f8c5292dd2bb1e55c69e88261c1728e49374b4930c702b7c88e866f561169", func := "columbary/columbarylaw07.NibbleReads", spec := "nibbleReads", unfollowed := true, recurses := true, apart := false }
def NibbleReadsSaid : Prop := nibbleReadsRow.holds Try.pinned (OpenSpec.ofChange nibbleReadsSpec)

/-- ITS FALSE NEIGHBOUR: 'it returns false'. Refute it at one input. -/
def nibbleReadsWrong : ChangeSpec := { name := "nibbleReads", fn := fun _ => fun
  | [d1, d2, d3] => { results := [.lit (.bool false)], args := [d1, d2, d3] }
  | _ => none }
def NibbleReadsWrongFalsely : Prop := nibbleReadsRow.holds Try.pinned (OpenSpec.ofChange nibbleReadsWrong)

/-- 'columbarylaw07.NibbleBack': WHATEVER THE INPUT: true; the input reads as it did. -/
def nibbleBackSpec : ChangeSpec := { name := "nibbleBack", fn := fun _ => fun
  | [d1, d2, d3] => { results := [.lit (.bool true)], args := [d1, d2, d3] }
  | _ => none }
def nibbleBackRow : OpenClaim := { program := "ytfioeiejaeoefaa", sum := "ed4f8c5292dd2bb1e55c69e88261c1728e49374b4930c702b7c88e866f561169", func := "columbary/columbarylaw07.NibbleBack", spec := "nibbleBack", unfollowed := true, recurses := true, apart := false }
def NibbleBackSaid : Prop := nibbleBackRow.holds Try.pinned (OpenSpec.ofChange nibbleBackSpec)

/-- ITS FALSE NEIGHBOUR: 'it returns false'. Refute it at one input. -/
def nibbleBackWrong : ChangeSpec := { name := "nibbleBack", fn := fun _ => fun
  | [d1, d2, d3] => { results := [.lit (.bool false)], args := [d1, d2, d3] }
  | _ => none }
def NibbleBackWrongFalsely : Prop := nibbleBackRow.holds Try.pinned (OpenSpec.ofChange nibbleBackWrong)

/-- 'columbarylaw07.NibbleWidth': WHATEVER THE INPUT: true; the input reads as it did. -/
def nibbleWidthSpec : ChangeSpec := { name := "nibbleWidth", fn := fun _ => fun
  | [d1, d2] => { results := [.lit (.bool true)], args := [d1, d2] }
  | _ => none }
def nibbleWidthRow : OpenClaim := { program := "ytfioeiejaeoefaa", sum := "ed4f8c5292dd2bb1e55c69e88261c1728e49374b4930c702b7c88e866f561169", func := "columbary/columbarylaw07.NibbleWidth", spec := "nibbleWidth", unfollowed := true, recurses := true, apart := false }
def NibbleWidthSaid : Prop := nibbleWidthRow.holds Try.pinned (OpenSpec.ofChange nibbleWidthSpec)

/-- ITS FALSE NEIGHBOUR: 'it returns false'. Refute it at one input. -/
def nibbleWidthWrong : ChangeSpec := { name := "nibbleWidth", fn := fun _ => fun
  | [d1, d2] => { results := [.lit (.bool false)], args := [d1, d2] }
  | _ => none }
def NibbleWidthWrongFalsely : Prop := nibbleWidthRow.holds Try.pinned (OpenSpec.ofChange nibbleWidthWrong)

/-- 'columbarylaw07.NibbleJoin': WHATEVER THE INPUT: true; the input reads as it did. -/
def nibbleJoinSpec : ChangeSpec := { name := "nibbleJoin", fn := fun _ => fun
  | [d1, d2] => { results := [.lit (.bool true)], args := [d1, d2] }
  | _ => none }
def nibbleJoinRow : OpenClaim := { program := "ytfioeiejaeoefaa", sum := "ed4f8c5292dd2bb1e55c69e88261c1728e49374b4930c702b7c88e866f561169", func := "columbary/columbarylaw07.NibbleJoin", spec := "nibbleJoin", unfollowed := true, recurses := true, apart := false }
def NibbleJoinSaid : Prop := nibbleJoinRow.holds Try.pinned (OpenSpec.ofChange nibbleJoinSpec)

/-- ITS FALSE NEIGHBOUR: 'it returns false'. Refute it at one input. -/
def nibbleJoinWrong : ChangeSpec := { name := "nibbleJoin", fn := fun _ => fun
  | [d1, d2] => { results := [.lit (.bool false)], args := [d1, d2] }
  | _ => none }
def NibbleJoinWrongFalsely : Prop := nibbleJoinRow.holds Try.pinned (OpenSpec.ofChange nibbleJoinWrong)

/- THE SECOND FORM. 'bulk': how many values and letters a reading holds, each counted each time it is reached (what is shared counts as often as it is met; a slice's spare places count too). A statement '..UptoSaid' is the law's where the arguments, and the package variables that the reading takes, are together of bulk at most 1048576: NARROWER than '..Said'. Prove '..Said' where nothing that the law and all that it calls make is longer than what came in: it says more and counts as full. Else prove '..UptoSaid'. A law counts once. -/
mutual
def uptoBulk {H : Type} : DataW H → Nat
  | .lit (.string bytes) => bytes.length + 1
  | .lit _ => 1
  | .nil => 1
  | .ptr d => uptoBulk d + 1
  | .slice elems spare => uptoBulkAll elems + uptoBulkAll spare + 1
  | .agg parts => uptoBulkAll parts + 1
  | .iface _ d => uptoBulk d + 1
  | .map entries => uptoBulkEntries entries + 1
  | .held _ => 1
def uptoBulkAll {H : Type} : List (DataW H) → Nat
  | [] => 0
  | d :: r => uptoBulk d + uptoBulkAll r
def uptoBulkEntries {H : Type} : List (Lit × DataW H) → Nat
  | [] => 0
  | x :: r => uptoBulkEntry x + uptoBulkEntries r
def uptoBulkEntry {H : Type} : Lit × DataW H → Nat
  | (.string bytes, d) => bytes.length + uptoBulk d + 1
  | (_, d) => uptoBulk d + 1
 end
def uptoSmall : (H : Type) → List (DataW H) → Bool := fun _ ds => decide (uptoBulkAll ds ≤ 1048576)
def OpenSpec.upto (s : _root_.Go.ChangeSpec) : _root_.Go.OpenSpec := { _root_.Go.OpenSpec.ofChange s with cond := some uptoSmall }

/-- 'columbarylaw07.NibbleTells', WHERE WHAT IT READS IS OF BULK AT MOST 1048576: true; the input reads as it did. -/
def nibbleTellsUptoRow : OpenClaim := { program := "ytfioeiejaeoefaa", sum := "ed4f8c5292dd2bb1e55c69e88261c1728e49374b4930c702b7c88e866f561169", func := "columbary/columbarylaw07.NibbleTells", spec := "nibbleTells", unfollowed := true, recurses := true, apart := false, narrowed := true }
def NibbleTellsUptoSaid : Prop := nibbleTellsUptoRow.holds Try.pinned (OpenSpec.upto nibbleTellsSpec)

/-- 'columbarylaw07.NibbleReads', WHERE WHAT IT READS IS OF BULK AT MOST 1048576: true; the input reads as it did. -/
def nibbleReadsUptoRow : OpenClaim := { program := "ytfioeiejaeoefaa", sum := "ed4f8c5292dd2bb1e55c69e88261c1728e49374b4930c702b7c88e866f561169", func := "columbary/columbarylaw07.NibbleReads", spec := "nibbleReads", unfollowed := true, recurses := true, apart := false, narrowed := true }
def NibbleReadsUptoSaid : Prop := nibbleReadsUptoRow.holds Try.pinned (OpenSpec.upto nibbleReadsSpec)

/-- 'columbarylaw07.NibbleBack', WHERE WHAT IT READS IS OF BULK AT MOST 1048576: true; the input reads as it did. -/
def nibbleBackUptoRow : OpenClaim := { program := "ytfioeiejaeoefaa", sum := "ed4f8c5292dd2bb1e55c69e88261c1728e49374b4930c702b7c88e866f561169", func := "columbary/columbarylaw07.NibbleBack", spec := "nibbleBack", unfollowed := true, recurses := true, apart := false, narrowed := true }
def NibbleBackUptoSaid : Prop := nibbleBackUptoRow.holds Try.pinned (OpenSpec.upto nibbleBackSpec)

/-- 'columbarylaw07.NibbleWidth', WHERE WHAT IT READS IS OF BULK AT MOST 1048576: true; the input reads as it did. -/
def nibbleWidthUptoRow : OpenClaim := { program := "ytfioeiejaeoefaa", sum := "ed4f8c5292dd2bb1e55c69e88261c1728e49374b4930c702b7c88e866f561169", func := "columbary/columbarylaw07.NibbleWidth", spec := "nibbleWidth", unfollowed := true, recurses := true, apart := false, narrowed := true }
def NibbleWidthUptoSaid : Prop := nibbleWidthUptoRow.holds Try.pinned (OpenSpec.upto nibbleWidthSpec)

/-- 'columbarylaw07.NibbleJoin', WHERE WHAT IT READS IS OF BULK AT MOST 1048576: true; the input reads as it did. -/
def nibbleJoinUptoRow : OpenClaim := { program := "ytfioeiejaeoefaa", sum := "ed4f8c5292dd2bb1e55c69e88261c1728e49374b4930c702b7c88e866f561169", func := "columbary/columbarylaw07.NibbleJoin", spec := "nibbleJoin", unfollowed := true, recurses := true, apart := false, narrowed := true }
def NibbleJoinUptoSaid : Prop := nibbleJoinUptoRow.holds Try.pinned (OpenSpec.upto nibbleJoinSpec)

end Rows
end Go.Proofs.Ytfioeiejaeoefaa
