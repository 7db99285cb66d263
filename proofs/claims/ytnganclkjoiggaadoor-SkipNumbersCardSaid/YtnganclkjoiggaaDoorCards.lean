/-
  DERIVED. GIVEN WITH THE SEED: THE CARDS: each row of YtnganclkjoiggaaDoorRows.lean that lists a variable, with what it lists TIED to the program's text (the seventh form; the later family's looks); each row that meets fmt, with fmt's text TOLD by the authors' own Lean function (tested against real Go, not proved from fmt's source: count such statements apart). THE CARD IS WHAT COUNTS. Prove the row's statement (the work); the ties are given (YtnganclkjoiggaaDoorTie.lean); close each card by the builder's one call (the guide's Derived/Test/ToyasCard.lean, 'card_holds'). Laid BY PROGRAM, IN A SANDBOX (cutbox-door.mjs). By AI agents, Wed Nov 11 2026. No macro, syntax, notation, axiom, sorry.
-/
import Derived.Test.YtnganclkjoiggaaDoorRows
import GoSem.ClaimSeven
namespace Go.Proofs.YtnganclkjoiggaaDoor
namespace Rows

/-- THE TIED CARD OF 'debenturelaw07.SkipPlays'. -/
def skipPlaysCard : Claim7 := { stood := { row := skipPlaysRow, standIns := [], harness := (true, "f040674c08e17e37da46615202d9e801ce3fd2af26779672a1902828a969513c"), looks := false }, kinds := [], alts := [], laidByText := true, laidKinds := [.data], laidTests := true, laidLooks := .later }
def SkipPlaysCardSaid : Prop := Claim7.holds Tryd.pinned (.plain (OpenSpec.ofChange skipPlaysSpec)) skipPlaysCard

/-- THE TIED CARD OF 'debenturelaw07.SkipNumbers'. -/
def skipNumbersCard : Claim7 := { stood := { row := skipNumbersRow, standIns := [], harness := (true, "f040674c08e17e37da46615202d9e801ce3fd2af26779672a1902828a969513c"), looks := false }, kinds := [], alts := [], laidByText := true, laidKinds := [.data], laidTests := true, laidLooks := .later }
def SkipNumbersCardSaid : Prop := Claim7.holds Tryd.pinned (.plain (OpenSpec.ofChange skipNumbersSpec)) skipNumbersCard

/-- THE TIED CARD OF 'debenturelaw07.SkipTurned'. -/
def skipTurnedCard : Claim7 := { stood := { row := skipTurnedRow, standIns := [], harness := (true, "f040674c08e17e37da46615202d9e801ce3fd2af26779672a1902828a969513c"), looks := false }, kinds := [], alts := [], laidByText := true, laidKinds := [.data], laidTests := true, laidLooks := .later }
def SkipTurnedCardSaid : Prop := Claim7.holds Tryd.pinned (.plain (OpenSpec.ofChange skipTurnedSpec)) skipTurnedCard

/-- THE TIED CARD OF 'debenturelaw07.SkipWalks'. -/
def skipWalksCard : Claim7 := { stood := { row := skipWalksRow, standIns := [], harness := (true, "f040674c08e17e37da46615202d9e801ce3fd2af26779672a1902828a969513c"), looks := false }, kinds := [], alts := [], laidByText := true, laidKinds := [.data], laidTests := true, laidLooks := .later }
def SkipWalksCardSaid : Prop := Claim7.holds Tryd.pinned (.plain (OpenSpec.ofChange skipWalksSpec)) skipWalksCard

/-- THE TIED CARD OF 'debenturelaw07.SkipNone'. -/
def skipNoneCard : Claim7 := { stood := { row := skipNoneRow, standIns := [], harness := (true, "f040674c08e17e37da46615202d9e801ce3fd2af26779672a1902828a969513c"), looks := false }, kinds := [], alts := [], laidByText := true, laidKinds := [.data], laidTests := true, laidLooks := .later }
def SkipNoneCardSaid : Prop := Claim7.holds Tryd.pinned (.plain (OpenSpec.ofChange skipNoneSpec)) skipNoneCard

/-- THE SECOND FORM's CARD OF 'debenturelaw07.SkipPlays'. -/
def skipPlaysUptoCard : Claim7 := { stood := { row := skipPlaysUptoRow, standIns := [], harness := (true, "f040674c08e17e37da46615202d9e801ce3fd2af26779672a1902828a969513c"), looks := false }, kinds := [], alts := [], laidByText := true, laidKinds := [.data], laidTests := true, laidLooks := .later }
def SkipPlaysUptoCardSaid : Prop := Claim7.holds Tryd.pinned (.plain (OpenSpec.upto skipPlaysSpec)) skipPlaysUptoCard

/-- THE SECOND FORM's CARD OF 'debenturelaw07.SkipNumbers'. -/
def skipNumbersUptoCard : Claim7 := { stood := { row := skipNumbersUptoRow, standIns := [], harness := (true, "f040674c08e17e37da46615202d9e801ce3fd2af26779672a1902828a969513c"), looks := false }, kinds := [], alts := [], laidByText := true, laidKinds := [.data], laidTests := true, laidLooks := .later }
def SkipNumbersUptoCardSaid : Prop := Claim7.holds Tryd.pinned (.plain (OpenSpec.upto skipNumbersSpec)) skipNumbersUptoCard

/-- THE SECOND FORM's CARD OF 'debenturelaw07.SkipTurned'. -/
def skipTurnedUptoCard : Claim7 := { stood := { row := skipTurnedUptoRow, standIns := [], harness := (true, "f040674c08e17e37da46615202d9e801ce3fd2af26779672a1902828a969513c"), looks := false }, kinds := [], alts := [], laidByText := true, laidKinds := [.data], laidTests := true, laidLooks := .later }
def SkipTurnedUptoCardSaid : Prop := Claim7.holds Tryd.pinned (.plain (OpenSpec.upto skipTurnedSpec)) skipTurnedUptoCard

/-- THE SECOND FORM's CARD OF 'debenturelaw07.SkipWalks'. -/
def skipWalksUptoCard : Claim7 := { stood := { row := skipWalksUptoRow, standIns := [], harness := (true, "f040674c08e17e37da46615202d9e801ce3fd2af26779672a1902828a969513c"), looks := false }, kinds := [], alts := [], laidByText := true, laidKinds := [.data], laidTests := true, laidLooks := .later }
def SkipWalksUptoCardSaid : Prop := Claim7.holds Tryd.pinned (.plain (OpenSpec.upto skipWalksSpec)) skipWalksUptoCard

/-- THE SECOND FORM's CARD OF 'debenturelaw07.SkipNone'. -/
def skipNoneUptoCard : Claim7 := { stood := { row := skipNoneUptoRow, standIns := [], harness := (true, "f040674c08e17e37da46615202d9e801ce3fd2af26779672a1902828a969513c"), looks := false }, kinds := [], alts := [], laidByText := true, laidKinds := [.data], laidTests := true, laidLooks := .later }
def SkipNoneUptoCardSaid : Prop := Claim7.holds Tryd.pinned (.plain (OpenSpec.upto skipNoneSpec)) skipNoneUptoCard
end Rows
end Go.Proofs.YtnganclkjoiggaaDoor
