/-
  DERIVED. GIVEN WITH THE SEED: THE CARDS: each row of YthogafecplhckaaDoorRows.lean that lists a variable, with what it lists TIED to the program's text (the seventh form; the later family's looks); each row that meets fmt, with fmt's text TOLD by the authors' own Lean function (tested against real Go, not proved from fmt's source: count such statements apart). THE CARD IS WHAT COUNTS. Prove the row's statement (the work); the ties are given (YthogafecplhckaaDoorTie.lean); close each card by the builder's one call (the guide's Derived/Test/ToyasCard.lean, 'card_holds'). Laid BY PROGRAM, IN A SANDBOX (cutbox-door.mjs). By AI agents, Wed Nov 11 2026. No macro, syntax, notation, axiom, sorry.
-/
import Derived.Test.YthogafecplhckaaDoorRows
import GoSem.ClaimSeven
namespace Go.Proofs.YthogafecplhckaaDoor
namespace Rows

/-- THE TIED CARD OF 'columbarylaw19.JournalReads'. -/
def journalReadsCard : Claim7 := { stood := { row := journalReadsRow, standIns := [], harness := (true, "614ee901420342a940157179ff5b1118bacf4186c2cd52dbcdafb3bd7dd84632"), looks := false }, kinds := [], alts := [], laidByText := true, laidKinds := [.data], laidTests := true, laidLooks := .later }
def JournalReadsCardSaid : Prop := Claim7.holds Tryd.pinned (.plain (OpenSpec.ofChange journalReadsSpec)) journalReadsCard

/-- THE TIED CARD OF 'columbarylaw19.JournalKept'. -/
def journalKeptCard : Claim7 := { stood := { row := journalKeptRow, standIns := [], harness := (true, "614ee901420342a940157179ff5b1118bacf4186c2cd52dbcdafb3bd7dd84632"), looks := false }, kinds := [], alts := [], laidByText := true, laidKinds := [.data], laidTests := true, laidLooks := .later }
def JournalKeptCardSaid : Prop := Claim7.holds Tryd.pinned (.plain (OpenSpec.ofChange journalKeptSpec)) journalKeptCard

/-- THE TIED CARD OF 'columbarylaw19.JournalBack'. -/
def journalBackCard : Claim7 := { stood := { row := journalBackRow, standIns := [], harness := (true, "614ee901420342a940157179ff5b1118bacf4186c2cd52dbcdafb3bd7dd84632"), looks := false }, kinds := [], alts := [], laidByText := true, laidKinds := [.data], laidTests := true, laidLooks := .later }
def JournalBackCardSaid : Prop := Claim7.holds Tryd.pinned (.plain (OpenSpec.ofChange journalBackSpec)) journalBackCard

/-- THE TIED CARD OF 'columbarylaw19.JournalParts'. -/
def journalPartsCard : Claim7 := { stood := { row := journalPartsRow, standIns := [], harness := (true, "614ee901420342a940157179ff5b1118bacf4186c2cd52dbcdafb3bd7dd84632"), looks := false }, kinds := [], alts := [], laidByText := true, laidKinds := [.data], laidTests := true, laidLooks := .later }
def JournalPartsCardSaid : Prop := Claim7.holds Tryd.pinned (.plain (OpenSpec.ofChange journalPartsSpec)) journalPartsCard

/-- THE SECOND FORM's CARD OF 'columbarylaw19.JournalReads'. -/
def journalReadsUptoCard : Claim7 := { stood := { row := journalReadsUptoRow, standIns := [], harness := (true, "614ee901420342a940157179ff5b1118bacf4186c2cd52dbcdafb3bd7dd84632"), looks := false }, kinds := [], alts := [], laidByText := true, laidKinds := [.data], laidTests := true, laidLooks := .later }
def JournalReadsUptoCardSaid : Prop := Claim7.holds Tryd.pinned (.plain (OpenSpec.upto journalReadsSpec)) journalReadsUptoCard

/-- THE SECOND FORM's CARD OF 'columbarylaw19.JournalKept'. -/
def journalKeptUptoCard : Claim7 := { stood := { row := journalKeptUptoRow, standIns := [], harness := (true, "614ee901420342a940157179ff5b1118bacf4186c2cd52dbcdafb3bd7dd84632"), looks := false }, kinds := [], alts := [], laidByText := true, laidKinds := [.data], laidTests := true, laidLooks := .later }
def JournalKeptUptoCardSaid : Prop := Claim7.holds Tryd.pinned (.plain (OpenSpec.upto journalKeptSpec)) journalKeptUptoCard

/-- THE SECOND FORM's CARD OF 'columbarylaw19.JournalBack'. -/
def journalBackUptoCard : Claim7 := { stood := { row := journalBackUptoRow, standIns := [], harness := (true, "614ee901420342a940157179ff5b1118bacf4186c2cd52dbcdafb3bd7dd84632"), looks := false }, kinds := [], alts := [], laidByText := true, laidKinds := [.data], laidTests := true, laidLooks := .later }
def JournalBackUptoCardSaid : Prop := Claim7.holds Tryd.pinned (.plain (OpenSpec.upto journalBackSpec)) journalBackUptoCard

/-- THE SECOND FORM's CARD OF 'columbarylaw19.JournalParts'. -/
def journalPartsUptoCard : Claim7 := { stood := { row := journalPartsUptoRow, standIns := [], harness := (true, "614ee901420342a940157179ff5b1118bacf4186c2cd52dbcdafb3bd7dd84632"), looks := false }, kinds := [], alts := [], laidByText := true, laidKinds := [.data], laidTests := true, laidLooks := .later }
def JournalPartsUptoCardSaid : Prop := Claim7.holds Tryd.pinned (.plain (OpenSpec.upto journalPartsSpec)) journalPartsUptoCard
end Rows
end Go.Proofs.YthogafecplhckaaDoor
