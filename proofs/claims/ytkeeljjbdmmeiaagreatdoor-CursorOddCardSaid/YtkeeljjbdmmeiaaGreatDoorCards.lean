/-
  DERIVED. GIVEN WITH THE SEED: THE CARDS: each row of YtkeeljjbdmmeiaaGreatDoorRows.lean that lists a variable, with what it lists TIED to the program's text (the seventh form; the later family's looks); each row that meets fmt, with fmt's text TOLD by the authors' own Lean function (tested against real Go, not proved from fmt's source: count such statements apart). THE CARD IS WHAT COUNTS. Prove the row's statement (the work); the ties are given (YtkeeljjbdmmeiaaGreatDoorTie.lean); close each card by the builder's one call (the guide's Derived/Test/ToyasCard.lean, 'card_holds'). Laid BY PROGRAM, IN A SANDBOX (cutbox-door.mjs). By AI agents, Wed Nov 11 2026. No macro, syntax, notation, axiom, sorry.
-/
import Derived.Test.YtkeeljjbdmmeiaaGreatDoorRows
import GoSem.ClaimSeven
namespace Go.Proofs.YtkeeljjbdmmeiaaGreatDoor
namespace Rows

/-- THE TIED CARD OF 'debenturelaw14.CursorKeys'. -/
def cursorKeysCard : Claim7 := { stood := { row := cursorKeysRow, standIns := [], harness := (true, "81cadde031b5b80c9d40dbb07ae0199185d385f8b9beaf76a995e807a9da8fb5"), looks := false }, kinds := [], alts := [], laidByText := true, laidKinds := [.data], laidTests := true, laidLooks := .later }
def CursorKeysCardSaid : Prop := Claim7.holds Tryz.pinned (.plain (OpenSpec.ofChange cursorKeysSpec)) cursorKeysCard

/-- THE TIED CARD OF 'debenturelaw14.CursorMerges'. -/
def cursorMergesCard : Claim7 := { stood := { row := cursorMergesRow, standIns := [], harness := (true, "81cadde031b5b80c9d40dbb07ae0199185d385f8b9beaf76a995e807a9da8fb5"), looks := false }, kinds := [], alts := [], laidByText := true, laidKinds := [.data], laidTests := true, laidLooks := .later }
def CursorMergesCardSaid : Prop := Claim7.holds Tryz.pinned (.plain (OpenSpec.ofChange cursorMergesSpec)) cursorMergesCard

/-- THE TIED CARD OF 'debenturelaw14.CursorViews'. -/
def cursorViewsCard : Claim7 := { stood := { row := cursorViewsRow, standIns := [], harness := (true, "81cadde031b5b80c9d40dbb07ae0199185d385f8b9beaf76a995e807a9da8fb5"), looks := false }, kinds := [], alts := [], laidByText := true, laidKinds := [.data], laidTests := true, laidLooks := .later }
def CursorViewsCardSaid : Prop := Claim7.holds Tryz.pinned (.plain (OpenSpec.ofChange cursorViewsSpec)) cursorViewsCard

/-- THE TIED CARD OF 'debenturelaw14.CursorOdd'. -/
def cursorOddCard : Claim7 := { stood := { row := cursorOddRow, standIns := [], harness := (true, "81cadde031b5b80c9d40dbb07ae0199185d385f8b9beaf76a995e807a9da8fb5"), looks := false }, kinds := [], alts := [], laidByText := true, laidKinds := [.data], laidTests := true, laidLooks := .later }
def CursorOddCardSaid : Prop := Claim7.holds Tryz.pinned (.plain (OpenSpec.ofChange cursorOddSpec)) cursorOddCard

/-- THE TIED CARD OF 'debenturelaw14.CursorNone'. -/
def cursorNoneCard : Claim7 := { stood := { row := cursorNoneRow, standIns := [], harness := (true, "81cadde031b5b80c9d40dbb07ae0199185d385f8b9beaf76a995e807a9da8fb5"), looks := false }, kinds := [], alts := [], laidByText := true, laidKinds := [.data], laidTests := true, laidLooks := .later }
def CursorNoneCardSaid : Prop := Claim7.holds Tryz.pinned (.plain (OpenSpec.ofChange cursorNoneSpec)) cursorNoneCard

/-- THE SECOND FORM's CARD OF 'debenturelaw14.CursorKeys'. -/
def cursorKeysUptoCard : Claim7 := { stood := { row := cursorKeysUptoRow, standIns := [], harness := (true, "81cadde031b5b80c9d40dbb07ae0199185d385f8b9beaf76a995e807a9da8fb5"), looks := false }, kinds := [], alts := [], laidByText := true, laidKinds := [.data], laidTests := true, laidLooks := .later }
def CursorKeysUptoCardSaid : Prop := Claim7.holds Tryz.pinned (.plain (OpenSpec.upto cursorKeysSpec)) cursorKeysUptoCard

/-- THE SECOND FORM's CARD OF 'debenturelaw14.CursorMerges'. -/
def cursorMergesUptoCard : Claim7 := { stood := { row := cursorMergesUptoRow, standIns := [], harness := (true, "81cadde031b5b80c9d40dbb07ae0199185d385f8b9beaf76a995e807a9da8fb5"), looks := false }, kinds := [], alts := [], laidByText := true, laidKinds := [.data], laidTests := true, laidLooks := .later }
def CursorMergesUptoCardSaid : Prop := Claim7.holds Tryz.pinned (.plain (OpenSpec.upto cursorMergesSpec)) cursorMergesUptoCard

/-- THE SECOND FORM's CARD OF 'debenturelaw14.CursorViews'. -/
def cursorViewsUptoCard : Claim7 := { stood := { row := cursorViewsUptoRow, standIns := [], harness := (true, "81cadde031b5b80c9d40dbb07ae0199185d385f8b9beaf76a995e807a9da8fb5"), looks := false }, kinds := [], alts := [], laidByText := true, laidKinds := [.data], laidTests := true, laidLooks := .later }
def CursorViewsUptoCardSaid : Prop := Claim7.holds Tryz.pinned (.plain (OpenSpec.upto cursorViewsSpec)) cursorViewsUptoCard

/-- THE SECOND FORM's CARD OF 'debenturelaw14.CursorOdd'. -/
def cursorOddUptoCard : Claim7 := { stood := { row := cursorOddUptoRow, standIns := [], harness := (true, "81cadde031b5b80c9d40dbb07ae0199185d385f8b9beaf76a995e807a9da8fb5"), looks := false }, kinds := [], alts := [], laidByText := true, laidKinds := [.data], laidTests := true, laidLooks := .later }
def CursorOddUptoCardSaid : Prop := Claim7.holds Tryz.pinned (.plain (OpenSpec.upto cursorOddSpec)) cursorOddUptoCard

/-- THE SECOND FORM's CARD OF 'debenturelaw14.CursorNone'. -/
def cursorNoneUptoCard : Claim7 := { stood := { row := cursorNoneUptoRow, standIns := [], harness := (true, "81cadde031b5b80c9d40dbb07ae0199185d385f8b9beaf76a995e807a9da8fb5"), looks := false }, kinds := [], alts := [], laidByText := true, laidKinds := [.data], laidTests := true, laidLooks := .later }
def CursorNoneUptoCardSaid : Prop := Claim7.holds Tryz.pinned (.plain (OpenSpec.upto cursorNoneSpec)) cursorNoneUptoCard
end Rows
end Go.Proofs.YtkeeljjbdmmeiaaGreatDoor
