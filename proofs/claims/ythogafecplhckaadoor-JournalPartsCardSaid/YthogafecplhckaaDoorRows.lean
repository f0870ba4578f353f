/-
  NARROWER THAN 'FOR EVERY INPUT', by the rows' own cells (each row's printed sentence says how): JournalReads: laid · JournalKept: laid · JournalBack: laid · JournalParts: laid.
  DERIVED. THE GIVEN ROWS OF THIS SEAT. 4 by the template 'for every input the law returns true; each argument reads behind the call as it read before'; 0 by the template 'total and deterministic' (their statements: YthogafecplhckaaDoorTotals.lean).
  GIVEN WITH THE SEED: the statements are not yours to turn. If you find one false, say at which input.
  Laid BY PROGRAM, IN A SANDBOX (cutbox-rows.mjs): the forced cells as the released guide's own fill.sh prints them over the translation 2135406ba9693049… (all of the seat's roots in one cut). By AI agents, Wed Nov 11 2026. No macro, syntax, notation, axiom, sorry.
-/
import Derived.Test.YthogafecplhckaaDoorChecked
import GoSem.Claim
import GoSem.ClaimJoined
import GoSem.ClaimMapViews
import Derived.JoinedTies
import Derived.KernelRfl
namespace Go.Proofs.YthogafecplhckaaDoor
/- THE CELL 'sum', in the pinned program and in every row, IS THE sha256 OF THE DUMP (.gsa) THAT YthogafecplhckaaDoorProg.lean LOADS. Nothing in Lean hashes anything: it is a label: what it is worth is what the hold of that sum in a sandbox is worth. -/
noncomputable def Tryd.pinned : Pinned := { name := "ythogafecplhckaadoor", sum := "2135406ba9693049e9cc7c26c3137cc19e12d929d3fae601ac7d319b98c80acb", checked := Tryd.checked }
namespace Rows
def none {H : Type} : Left H := { results := [], args := [] }

/- WHAT THE LISTED PACKAGE-LEVEL VARIABLES READ AS WHEN THE CALL BEGINS. Each datum BY PROGRAM (the guide's laid-datum.mjs) off the statement by which the dump's own 'gosem.cut.vars' lays the variable. In a bare row this is a premise. The card (YthogafecplhckaaDoorCards.lean) ties it to the program's text. -/
def laid_columbary_check_halves {H : Type} : DataW H := .agg [.lit (.int .u32 0), .lit (.int .u32 274646895), .lit (.int .u32 549293790), .lit (.int .u32 820201905), .lit (.int .u32 1098587580), .lit (.int .u32 1361435347), .lit (.int .u32 1640403810), .lit (.int .u32 1905808397), .lit (.int .u32 2197175160), .lit (.int .u32 2460548119), .lit (.int .u32 2722870694), .lit (.int .u32 2987750089), .lit (.int .u32 3280807620), .lit (.int .u32 3553878443), .lit (.int .u32 3811616794), .lit (.int .u32 4084100981)]

/-- 'columbarylaw19.JournalReads': WHATEVER THE INPUT: true; the input reads as it did. -/
def journalReadsSpec : ChangeSpec := { name := "journalReads", fn := fun _ => fun
  | [d1, d2] => { results := [.lit (.bool true)], args := [d1, d2] }
  | _ => none }
def journalReadsRow : OpenClaim := { program := "ythogafecplhckaadoor", sum := "2135406ba9693049e9cc7c26c3137cc19e12d929d3fae601ac7d319b98c80acb", func := "columbary/columbarylaw19.JournalReads", spec := "journalReads", unfollowed := true, recurses := true, named := ["columbary/check.halves"], apart := false, laid := [("columbary/check.halves", laid_columbary_check_halves)] }
def JournalReadsSaid : Prop := journalReadsRow.holds Tryd.pinned (OpenSpec.ofChange journalReadsSpec)

/-- ITS FALSE NEIGHBOUR: 'it returns false'. Refute it at one input. -/
def journalReadsWrong : ChangeSpec := { name := "journalReads", fn := fun _ => fun
  | [d1, d2] => { results := [.lit (.bool false)], args := [d1, d2] }
  | _ => none }
def JournalReadsWrongFalsely : Prop := journalReadsRow.holds Tryd.pinned (OpenSpec.ofChange journalReadsWrong)

/-- 'columbarylaw19.JournalKept': WHATEVER THE INPUT: true; the input reads as it did. -/
def journalKeptSpec : ChangeSpec := { name := "journalKept", fn := fun _ => fun
  | [d1, d2, d3] => { results := [.lit (.bool true)], args := [d1, d2, d3] }
  | _ => none }
def journalKeptRow : OpenClaim := { program := "ythogafecplhckaadoor", sum := "2135406ba9693049e9cc7c26c3137cc19e12d929d3fae601ac7d319b98c80acb", func := "columbary/columbarylaw19.JournalKept", spec := "journalKept", unfollowed := true, recurses := true, named := ["columbary/check.halves"], apart := false, laid := [("columbary/check.halves", laid_columbary_check_halves)] }
def JournalKeptSaid : Prop := journalKeptRow.holds Tryd.pinned (OpenSpec.ofChange journalKeptSpec)

/-- ITS FALSE NEIGHBOUR: 'it returns false'. Refute it at one input. -/
def journalKeptWrong : ChangeSpec := { name := "journalKept", fn := fun _ => fun
  | [d1, d2, d3] => { results := [.lit (.bool false)], args := [d1, d2, d3] }
  | _ => none }
def JournalKeptWrongFalsely : Prop := journalKeptRow.holds Tryd.pinned (OpenSpec.ofChange journalKeptWrong)

/-- 'columbarylaw19.JournalBack': WHATEVER THE INPUT: true; the input reads as it did. -/
def journalBackSpec : ChangeSpec := { name := "journalBack", fn := fun _ => fun
  | [d1, d2, d3] => { results := [.lit (.bool true)], args := [d1, d2, d3] }
  | _ => none }
def journalBackRow : OpenClaim := { program := "ythogafecplhckaadoor", sum := "2135406ba9693049e9cc7c26c3137cc19e12d929d3fae601ac7d319b98c80acb", func := "columbary/columbarylaw19.JournalBack", spec := "journalBack", unfollowed := true, recurses := true, named := ["columbary/check.halves"], apart := false, laid := [("columbary/check.halves", laid_columbary_check_halves)] }
def JournalBackSaid : Prop := journalBackRow.holds Tryd.pinned (OpenSpec.ofChange journalBackSpec)

/-- ITS FALSE NEIGHBOUR: 'it returns false'. Refute it at one input. -/
def journalBackWrong : ChangeSpec := { name := "journalBack", fn := fun _ => fun
  | [d1, d2, d3] => { results := [.lit (.bool false)], args := [d1, d2, d3] }
  | _ => none }
def JournalBackWrongFalsely : Prop := journalBackRow.holds Tryd.pinned (OpenSpec.ofChange journalBackWrong)

/-- 'columbarylaw19.JournalParts': WHATEVER THE INPUT: true; the input reads as it did. -/
def journalPartsSpec : ChangeSpec := { name := "journalParts", fn := fun _ => fun
  | [d1, d2, d3] => { results := [.lit (.bool true)], args := [d1, d2, d3] }
  | _ => none }
def journalPartsRow : OpenClaim := { program := "ythogafecplhckaadoor", sum := "2135406ba9693049e9cc7c26c3137cc19e12d929d3fae601ac7d319b98c80acb", func := "columbary/columbarylaw19.JournalParts", spec := "journalParts", unfollowed := true, recurses := true, named := ["columbary/check.halves"], apart := false, laid := [("columbary/check.halves", laid_columbary_check_halves)] }
def JournalPartsSaid : Prop := journalPartsRow.holds Tryd.pinned (OpenSpec.ofChange journalPartsSpec)

/-- ITS FALSE NEIGHBOUR: 'it returns false'. Refute it at one input. -/
def journalPartsWrong : ChangeSpec := { name := "journalParts", fn := fun _ => fun
  | [d1, d2, d3] => { results := [.lit (.bool false)], args := [d1, d2, d3] }
  | _ => none }
def JournalPartsWrongFalsely : Prop := journalPartsRow.holds Tryd.pinned (OpenSpec.ofChange journalPartsWrong)

/- THE SECOND FORM. 'bulk': how many values and letters a reading holds, each counted each time it is reached (what is shared counts as often as it is met; a slice's spare places count too). A statement '..UptoSaid' is the law's where the arguments, and the package variables that the reading takes, are together of bulk at most 1048576: NARROWER than '..Said'. Prove '..Said' where nothing that the law and all that it calls make is longer than what came in: it says more and counts as full. Else prove '..UptoSaid'. A law counts once. -/
mutual
def uptoBulk {H : Type} : DataW H → Nat
  | .lit (.string bytes) => bytes.length + 1
  | .lit _ => 1
  | .nil => 1
  | .ptr d => uptoBulk d + 1
  | .slice elems spare => uptoBulkAll elems + uptoBulkAll spare + 1
  | .agg parts => uptoBulkAll parts + 1
  | .iface _ d => uptoBulk d + 1
  | .map entries => uptoBulkEntries entries + 1
  | .held _ => 1
def uptoBulkAll {H : Type} : List (DataW H) → Nat
  | [] => 0
  | d :: r => uptoBulk d + uptoBulkAll r
def uptoBulkEntries {H : Type} : List (Lit × DataW H) → Nat
  | [] => 0
  | x :: r => uptoBulkEntry x + uptoBulkEntries r
def uptoBulkEntry {H : Type} : Lit × DataW H → Nat
  | (.string bytes, d) => bytes.length + uptoBulk d + 1
  | (_, d) => uptoBulk d + 1
 end
def uptoSmall : (H : Type) → List (DataW H) → Bool := fun _ ds => decide (uptoBulkAll ds ≤ 1048576)
def OpenSpec.upto (s : _root_.Go.ChangeSpec) : _root_.Go.OpenSpec := { _root_.Go.OpenSpec.ofChange s with cond := some uptoSmall }

/-- 'columbarylaw19.JournalReads', WHERE WHAT IT READS IS OF BULK AT MOST 1048576: true; the input reads as it did. -/
def journalReadsUptoRow : OpenClaim := { program := "ythogafecplhckaadoor", sum := "2135406ba9693049e9cc7c26c3137cc19e12d929d3fae601ac7d319b98c80acb", func := "columbary/columbarylaw19.JournalReads", spec := "journalReads", unfollowed := true, recurses := true, named := ["columbary/check.halves"], apart := false, laid := [("columbary/check.halves", laid_columbary_check_halves)], narrowed := true }
def JournalReadsUptoSaid : Prop := journalReadsUptoRow.holds Tryd.pinned (OpenSpec.upto journalReadsSpec)

/-- 'columbarylaw19.JournalKept', WHERE WHAT IT READS IS OF BULK AT MOST 1048576: true; the input reads as it did. -/
def journalKeptUptoRow : OpenClaim := { program := "ythogafecplhckaadoor", sum := "2135406ba9693049e9cc7c26c3137cc19e12d929d3fae601ac7d319b98c80acb", func := "columbary/columbarylaw19.JournalKept", spec := "journalKept", unfollowed := true, recurses := true, named := ["columbary/check.halves"], apart := false, laid := [("columbary/check.halves", laid_columbary_check_halves)], narrowed := true }
def JournalKeptUptoSaid : Prop := journalKeptUptoRow.holds Tryd.pinned (OpenSpec.upto journalKeptSpec)

/-- 'columbarylaw19.JournalBack', WHERE WHAT IT READS IS OF BULK AT MOST 1048576: true; the input reads as it did. -/
def journalBackUptoRow : OpenClaim := { program := "ythogafecplhckaadoor", sum := "2135406ba9693049e9cc7c26c3137cc19e12d929d3fae601ac7d319b98c80acb", func := "columbary/columbarylaw19.JournalBack", spec := "journalBack", unfollowed := true, recurses := true, named := ["columbary/check.halves"], apart := false, laid := [("columbary/check.halves", laid_columbary_check_halves)], narrowed := true }
def JournalBackUptoSaid : Prop := journalBackUptoRow.holds Tryd.pinned (OpenSpec.upto journalBackSpec)

/-- 'columbarylaw19.JournalParts', WHERE WHAT IT READS IS OF BULK AT MOST 1048576: true; the input reads as it did. -/
def journalPartsUptoRow : OpenClaim := { program := "ythogafecplhckaadoor", sum := "2135406ba9693049e9cc7c26c3137cc19e12d929d3fae601ac7d319b98c80acb", func := "columbary/columbarylaw19.JournalParts", spec := "journalParts", unfollowed := true, recurses := true, named := ["columbary/check.halves"], apart := false, laid := [("columbary/check.halves", laid_columbary_check_halves)], narrowed := true }
def JournalPartsUptoSaid : Prop := journalPartsUptoRow.holds Tryd.pinned (OpenSpec.upto journalPartsSpec)

end Rows
end Go.Proofs.YthogafecplhckaaDoor
