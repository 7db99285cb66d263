/-
  DERIVED. GIVEN WITH THE SEED: THE CARDS: each row of YtdkjjpfidkaagaaDoorRows.lean that lists a variable, with what it lists TIED to the program's text (the seventh form; the later family's looks); each row that meets fmt, with fmt's text TOLD by the authors' own Lean function (tested against real Go, not proved from fmt's source: count such statements apart). THE CARD IS WHAT COUNTS. Prove the row's statement (the work); the ties are given (YtdkjjpfidkaagaaDoorTie.lean); close each card by the builder's one call (the guide's Derived/Test/ToyasCard.lean, 'card_holds'). Laid BY PROGRAM, IN A SANDBOX (cutbox-door.mjs). By AI agents, Wed Nov 11 2026. No macro, syntax, notation, axiom, sorry.
-/
import Derived.Test.YtdkjjpfidkaagaaDoorRows
import GoSem.ClaimSeven
namespace Go.Proofs.YtdkjjpfidkaagaaDoor
namespace Rows

/-- THE TIED CARD OF 'debenturelaw19.ParseRight'. -/
def parseRightCard : Claim7 := { stood := { row := parseRightRow, standIns := [], harness := (true, "090543cd7bc2f6b2ce6bcf0724093d3517536bc6b014a2cb7cd4697a358583ac"), looks := true }, kinds := [], alts := [], laidByText := true, laidKinds := [.data, .data, .data, .sentinel, .sentinel], laidTests := true, laidLooks := .later }
def ParseRightCardSaid : Prop := Claim7.holds Tryd.pinned (.plain (OpenSpec.ofChange parseRightSpec)) parseRightCard

/-- THE TIED CARD OF 'debenturelaw19.ParseCuts'. -/
def parseCutsCard : Claim7 := { stood := { row := parseCutsRow, standIns := [], harness := (true, "090543cd7bc2f6b2ce6bcf0724093d3517536bc6b014a2cb7cd4697a358583ac"), looks := true }, kinds := [], alts := [], laidByText := true, laidKinds := [.data, .data, .data, .sentinel, .sentinel], laidTests := true, laidLooks := .later }
def ParseCutsCardSaid : Prop := Claim7.holds Tryd.pinned (.plain (OpenSpec.ofChange parseCutsSpec)) parseCutsCard

/-- THE TIED CARD OF 'debenturelaw20.PrintExprs'. -/
def printExprsCard : Claim7 := { stood := { row := printExprsRow, standIns := [], harness := (true, "090543cd7bc2f6b2ce6bcf0724093d3517536bc6b014a2cb7cd4697a358583ac"), looks := true }, kinds := [], alts := [], laidByText := true, laidKinds := [.data, .data, .data], laidTests := true, laidLooks := .later }
def PrintExprsCardSaid : Prop := Claim7.holds Tryd.pinned (.plain (OpenSpec.ofChange printExprsSpec)) printExprsCard

/-- THE TIED CARD OF 'debenturelaw20.PrintTerms'. -/
def printTermsCard : Claim7 := { stood := { row := printTermsRow, standIns := [], harness := (true, "090543cd7bc2f6b2ce6bcf0724093d3517536bc6b014a2cb7cd4697a358583ac"), looks := true }, kinds := [], alts := [], laidByText := true, laidKinds := [.data, .data, .data], laidTests := true, laidLooks := .later }
def PrintTermsCardSaid : Prop := Claim7.holds Tryd.pinned (.plain (OpenSpec.ofChange printTermsSpec)) printTermsCard

/-- THE SECOND FORM's CARD OF 'debenturelaw19.ParseRight'. -/
def parseRightUptoCard : Claim7 := { stood := { row := parseRightUptoRow, standIns := [], harness := (true, "090543cd7bc2f6b2ce6bcf0724093d3517536bc6b014a2cb7cd4697a358583ac"), looks := true }, kinds := [], alts := [], laidByText := true, laidKinds := [.data, .data, .data, .sentinel, .sentinel], laidTests := true, laidLooks := .later }
def ParseRightUptoCardSaid : Prop := Claim7.holds Tryd.pinned (.plain (OpenSpec.upto parseRightSpec)) parseRightUptoCard

/-- THE SECOND FORM's CARD OF 'debenturelaw19.ParseCuts'. -/
def parseCutsUptoCard : Claim7 := { stood := { row := parseCutsUptoRow, standIns := [], harness := (true, "090543cd7bc2f6b2ce6bcf0724093d3517536bc6b014a2cb7cd4697a358583ac"), looks := true }, kinds := [], alts := [], laidByText := true, laidKinds := [.data, .data, .data, .sentinel, .sentinel], laidTests := true, laidLooks := .later }
def ParseCutsUptoCardSaid : Prop := Claim7.holds Tryd.pinned (.plain (OpenSpec.upto parseCutsSpec)) parseCutsUptoCard

/-- THE SECOND FORM's CARD OF 'debenturelaw20.PrintExprs'. -/
def printExprsUptoCard : Claim7 := { stood := { row := printExprsUptoRow, standIns := [], harness := (true, "090543cd7bc2f6b2ce6bcf0724093d3517536bc6b014a2cb7cd4697a358583ac"), looks := true }, kinds := [], alts := [], laidByText := true, laidKinds := [.data, .data, .data], laidTests := true, laidLooks := .later }
def PrintExprsUptoCardSaid : Prop := Claim7.holds Tryd.pinned (.plain (OpenSpec.upto printExprsSpec)) printExprsUptoCard

/-- THE SECOND FORM's CARD OF 'debenturelaw20.PrintTerms'. -/
def printTermsUptoCard : Claim7 := { stood := { row := printTermsUptoRow, standIns := [], harness := (true, "090543cd7bc2f6b2ce6bcf0724093d3517536bc6b014a2cb7cd4697a358583ac"), looks := true }, kinds := [], alts := [], laidByText := true, laidKinds := [.data, .data, .data], laidTests := true, laidLooks := .later }
def PrintTermsUptoCardSaid : Prop := Claim7.holds Tryd.pinned (.plain (OpenSpec.upto printTermsSpec)) printTermsUptoCard
end Rows
end Go.Proofs.YtdkjjpfidkaagaaDoor
