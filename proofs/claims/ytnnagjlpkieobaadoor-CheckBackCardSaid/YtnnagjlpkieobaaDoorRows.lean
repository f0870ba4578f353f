/-
  NARROWER THAN 'FOR EVERY INPUT', by the rows' own cells (each row's printed sentence says how): CheckTells: laid · CheckBack: laid · CheckTurned: laid · CheckOwn: laid · CheckLinear: laid.
  DERIVED. THE GIVEN ROWS OF THIS SEAT. 5 by the template 'for every input the law returns true; each argument reads behind the call as it read before'; 0 by the template 'total and deterministic' (their statements: YtnnagjlpkieobaaDoorTotals.lean).
  GIVEN WITH THE SEED: the statements are not yours to turn. If you find one false, say at which input.
  Laid BY PROGRAM, IN A SANDBOX (cutbox-rows.mjs): the forced cells as the released guide's own fill.sh prints them over the translation 3ee810d3bfa25413… (all of the seat's roots in one cut). By AI agents, Wed Nov 11 2026. No macro, syntax, notation, axiom, sorry.
-/
import Derived.Test.YtnnagjlpkieobaaDoorChecked
import GoSem.Claim
import GoSem.ClaimJoined
import GoSem.ClaimMapViews
import Derived.JoinedTies
import Derived.KernelRfl
namespace Go.Proofs.YtnnagjlpkieobaaDoor
/- THE CELL 'sum', in the pinned program and in every row, IS THE sha256 OF THE DUMP (.gsa) THAT YtnnagjlpkieobaaDoorProg.lean LOADS. Nothing in Lean hashes anything: it is a label: what it is worth is what the hold of that sum in a sandbox is worth. -/
noncomputable def Tryd.pinned : Pinned := { name := "ytnnagjlpkieobaadoor", sum := "3ee810d3bfa2541371c74432f4dbb83e5c42258b693a0e2b906bc8c147e91cfd", checked := Tryd.checked }
namespace Rows
def none {H : Type} : Left H := { results := [], args := [] }

/- WHAT THE LISTED PACKAGE-LEVEL VARIABLES READ AS WHEN THE CALL BEGINS. Each datum BY PROGRAM (the guide's laid-datum.mjs) off the statement by which the dump's own 'gosem.cut.vars' lays the variable. In a bare row this is a premise. The card (YtnnagjlpkieobaaDoorCards.lean) ties it to the program's text. -/
def laid_columbary_check_halves {H : Type} : DataW H := .agg [.lit (.int .u32 0), .lit (.int .u32 274646895), .lit (.int .u32 549293790), .lit (.int .u32 820201905), .lit (.int .u32 1098587580), .lit (.int .u32 1361435347), .lit (.int .u32 1640403810), .lit (.int .u32 1905808397), .lit (.int .u32 2197175160), .lit (.int .u32 2460548119), .lit (.int .u32 2722870694), .lit (.int .u32 2987750089), .lit (.int .u32 3280807620), .lit (.int .u32 3553878443), .lit (.int .u32 3811616794), .lit (.int .u32 4084100981)]

/-- 'columbarylaw02.CheckTells': WHATEVER THE INPUT: true; the input reads as it did. -/
def checkTellsSpec : ChangeSpec := { name := "checkTells", fn := fun _ => fun
  | [d] => { results := [.lit (.bool true)], args := [d] }
  | _ => none }
def checkTellsRow : OpenClaim := { program := "ytnnagjlpkieobaadoor", sum := "3ee810d3bfa2541371c74432f4dbb83e5c42258b693a0e2b906bc8c147e91cfd", func := "columbary/columbarylaw02.CheckTells", spec := "checkTells", named := ["columbary/check.halves"], apart := false, laid := [("columbary/check.halves", laid_columbary_check_halves)] }
def CheckTellsSaid : Prop := checkTellsRow.holds Tryd.pinned (OpenSpec.ofChange checkTellsSpec)

/-- ITS FALSE NEIGHBOUR: 'it returns false'. Refute it at one input. -/
def checkTellsWrong : ChangeSpec := { name := "checkTells", fn := fun _ => fun
  | [d] => { results := [.lit (.bool false)], args := [d] }
  | _ => none }
def CheckTellsWrongFalsely : Prop := checkTellsRow.holds Tryd.pinned (OpenSpec.ofChange checkTellsWrong)

/-- 'columbarylaw02.CheckBack': WHATEVER THE INPUT: true; the input reads as it did. -/
def checkBackSpec : ChangeSpec := { name := "checkBack", fn := fun _ => fun
  | [d1, d2] => { results := [.lit (.bool true)], args := [d1, d2] }
  | _ => none }
def checkBackRow : OpenClaim := { program := "ytnnagjlpkieobaadoor", sum := "3ee810d3bfa2541371c74432f4dbb83e5c42258b693a0e2b906bc8c147e91cfd", func := "columbary/columbarylaw02.CheckBack", spec := "checkBack", named := ["columbary/check.halves"], apart := false, laid := [("columbary/check.halves", laid_columbary_check_halves)] }
def CheckBackSaid : Prop := checkBackRow.holds Tryd.pinned (OpenSpec.ofChange checkBackSpec)

/-- ITS FALSE NEIGHBOUR: 'it returns false'. Refute it at one input. -/
def checkBackWrong : ChangeSpec := { name := "checkBack", fn := fun _ => fun
  | [d1, d2] => { results := [.lit (.bool false)], args := [d1, d2] }
  | _ => none }
def CheckBackWrongFalsely : Prop := checkBackRow.holds Tryd.pinned (OpenSpec.ofChange checkBackWrong)

/-- 'columbarylaw02.CheckTurned': WHATEVER THE INPUT: true; the input reads as it did. -/
def checkTurnedSpec : ChangeSpec := { name := "checkTurned", fn := fun _ => fun
  | [d1, d2, d3] => { results := [.lit (.bool true)], args := [d1, d2, d3] }
  | _ => none }
def checkTurnedRow : OpenClaim := { program := "ytnnagjlpkieobaadoor", sum := "3ee810d3bfa2541371c74432f4dbb83e5c42258b693a0e2b906bc8c147e91cfd", func := "columbary/columbarylaw02.CheckTurned", spec := "checkTurned", named := ["columbary/check.halves"], apart := false, laid := [("columbary/check.halves", laid_columbary_check_halves)] }
def CheckTurnedSaid : Prop := checkTurnedRow.holds Tryd.pinned (OpenSpec.ofChange checkTurnedSpec)

/-- ITS FALSE NEIGHBOUR: 'it returns false'. Refute it at one input. -/
def checkTurnedWrong : ChangeSpec := { name := "checkTurned", fn := fun _ => fun
  | [d1, d2, d3] => { results := [.lit (.bool false)], args := [d1, d2, d3] }
  | _ => none }
def CheckTurnedWrongFalsely : Prop := checkTurnedRow.holds Tryd.pinned (OpenSpec.ofChange checkTurnedWrong)

/-- 'columbarylaw02.CheckOwn': WHATEVER THE INPUT: true; the input reads as it did. -/
def checkOwnSpec : ChangeSpec := { name := "checkOwn", fn := fun _ => fun
  | [d1, d2] => { results := [.lit (.bool true)], args := [d1, d2] }
  | _ => none }
def checkOwnRow : OpenClaim := { program := "ytnnagjlpkieobaadoor", sum := "3ee810d3bfa2541371c74432f4dbb83e5c42258b693a0e2b906bc8c147e91cfd", func := "columbary/columbarylaw02.CheckOwn", spec := "checkOwn", named := ["columbary/check.halves"], apart := false, laid := [("columbary/check.halves", laid_columbary_check_halves)] }
def CheckOwnSaid : Prop := checkOwnRow.holds Tryd.pinned (OpenSpec.ofChange checkOwnSpec)

/-- ITS FALSE NEIGHBOUR: 'it returns false'. Refute it at one input. -/
def checkOwnWrong : ChangeSpec := { name := "checkOwn", fn := fun _ => fun
  | [d1, d2] => { results := [.lit (.bool false)], args := [d1, d2] }
  | _ => none }
def CheckOwnWrongFalsely : Prop := checkOwnRow.holds Tryd.pinned (OpenSpec.ofChange checkOwnWrong)

/-- 'columbarylaw02.CheckLinear': WHATEVER THE INPUT: true; the input reads as it did. -/
def checkLinearSpec : ChangeSpec := { name := "checkLinear", fn := fun _ => fun
  | [d1, d2, d3] => { results := [.lit (.bool true)], args := [d1, d2, d3] }
  | _ => none }
def checkLinearRow : OpenClaim := { program := "ytnnagjlpkieobaadoor", sum := "3ee810d3bfa2541371c74432f4dbb83e5c42258b693a0e2b906bc8c147e91cfd", func := "columbary/columbarylaw02.CheckLinear", spec := "checkLinear", named := ["columbary/check.halves"], apart := false, laid := [("columbary/check.halves", laid_columbary_check_halves)] }
def CheckLinearSaid : Prop := checkLinearRow.holds Tryd.pinned (OpenSpec.ofChange checkLinearSpec)

/-- ITS FALSE NEIGHBOUR: 'it returns false'. Refute it at one input. -/
def checkLinearWrong : ChangeSpec := { name := "checkLinear", fn := fun _ => fun
  | [d1, d2, d3] => { results := [.lit (.bool false)], args := [d1, d2, d3] }
  | _ => none }
def CheckLinearWrongFalsely : Prop := checkLinearRow.holds Tryd.pinned (OpenSpec.ofChange checkLinearWrong)

/- THE SECOND FORM. 'bulk': how many values and letters a reading holds, each counted each time it is reached (what is shared counts as often as it is met; a slice's spare places count too). A statement '..UptoSaid' is the law's where the arguments, and the package variables that the reading takes, are together of bulk at most 1048576: NARROWER than '..Said'. Prove '..Said' where nothing that the law and all that it calls make is longer than what came in: it says more and counts as full. Else prove '..UptoSaid'. A law counts once. -/
mutual
def uptoBulk {H : Type} : DataW H → Nat
  | .lit (.string bytes) => bytes.length + 1
  | .lit _ => 1
  | .nil => 1
  | .ptr d => uptoBulk d + 1
  | .slice elems spare => uptoBulkAll elems + uptoBulkAll spare + 1
  | .agg parts => uptoBulkAll parts + 1
  | .iface _ d => uptoBulk d + 1
  | .map entries => uptoBulkEntries entries + 1
  | .held _ => 1
def uptoBulkAll {H : Type} : List (DataW H) → Nat
  | [] => 0
  | d :: r => uptoBulk d + uptoBulkAll r
def uptoBulkEntries {H : Type} : List (Lit × DataW H) → Nat
  | [] => 0
  | x :: r => uptoBulkEntry x + uptoBulkEntries r
def uptoBulkEntry {H : Type} : Lit × DataW H → Nat
  | (.string bytes, d) => bytes.length + uptoBulk d + 1
  | (_, d) => uptoBulk d + 1
 end
def uptoSmall : (H : Type) → List (DataW H) → Bool := fun _ ds => decide (uptoBulkAll ds ≤ 1048576)
def OpenSpec.upto (s : _root_.Go.ChangeSpec) : _root_.Go.OpenSpec := { _root_.Go.OpenSpec.ofChange s with cond := some uptoSmall }

/-- 'columbarylaw02.CheckTells', WHERE WHAT IT READS IS OF BULK AT MOST 1048576: true; the input reads as it did. -/
def checkTellsUptoRow : OpenClaim := { program := "ytnnagjlpkieobaadoor", sum := "3ee810d3bfa2541371c74432f4dbb83e5c42258b693a0e2b906bc8c147e91cfd", func := "columbary/columbarylaw02.CheckTells", spec := "checkTells", named := ["columbary/check.halves"], apart := false, laid := [("columbary/check.halves", laid_columbary_check_halves)], narrowed := true }
def CheckTellsUptoSaid : Prop := checkTellsUptoRow.holds Tryd.pinned (OpenSpec.upto checkTellsSpec)

/-- 'columbarylaw02.CheckBack', WHERE WHAT IT READS IS OF BULK AT MOST 1048576: true; the input reads as it did. -/
def checkBackUptoRow : OpenClaim := { program := "ytnnagjlpkieobaadoor", sum := "3ee810d3bfa2541371c74432f4dbb83e5c42258b693a0e2b906bc8c147e91cfd", func := "columbary/columbarylaw02.CheckBack", spec := "checkBack", named := ["columbary/check.halves"], apart := false, laid := [("columbary/check.halves", laid_columbary_check_halves)], narrowed := true }
def CheckBackUptoSaid : Prop := checkBackUptoRow.holds Tryd.pinned (OpenSpec.upto checkBackSpec)

/-- 'columbarylaw02.CheckTurned', WHERE WHAT IT READS IS OF BULK AT MOST 1048576: true; the input reads as it did. -/
def checkTurnedUptoRow : OpenClaim := { program := "ytnnagjlpkieobaadoor", sum := "3ee810d3bfa2541371c74432f4dbb83e5c42258b693a0e2b906bc8c147e91cfd", func := "columbary/columbarylaw02.CheckTurned", spec := "checkTurned", named := ["columbary/check.halves"], apart := false, laid := [("columbary/check.halves", laid_columbary_check_halves)], narrowed := true }
def CheckTurnedUptoSaid : Prop := checkTurnedUptoRow.holds Tryd.pinned (OpenSpec.upto checkTurnedSpec)

/-- 'columbarylaw02.CheckOwn', WHERE WHAT IT READS IS OF BULK AT MOST 1048576: true; the input reads as it did. -/
def checkOwnUptoRow : OpenClaim := { program := "ytnnagjlpkieobaadoor", sum := "3ee810d3bfa2541371c74432f4dbb83e5c42258b693a0e2b906bc8c147e91cfd", func := "columbary/columbarylaw02.CheckOwn", spec := "checkOwn", named := ["columbary/check.halves"], apart := false, laid := [("columbary/check.halves", laid_columbary_check_halves)], narrowed := true }
def CheckOwnUptoSaid : Prop := checkOwnUptoRow.holds Tryd.pinned (OpenSpec.upto checkOwnSpec)

/-- 'columbarylaw02.CheckLinear', WHERE WHAT IT READS IS OF BULK AT MOST 1048576: true; the input reads as it did. -/
def checkLinearUptoRow : OpenClaim := { program := "ytnnagjlpkieobaadoor", sum := "3ee810d3bfa2541371c74432f4dbb83e5c42258b693a0e2b906bc8c147e91cfd", func := "columbary/columbarylaw02.CheckLinear", spec := "checkLinear", named := ["columbary/check.halves"], apart := false, laid := [("columbary/check.halves", laid_columbary_check_halves)], narrowed := true }
def CheckLinearUptoSaid : Prop := checkLinearUptoRow.holds Tryd.pinned (OpenSpec.upto checkLinearSpec)

end Rows
end Go.Proofs.YtnnagjlpkieobaaDoor
