/-
  No cell of these rows narrows 'for every input' (looked for: loops, veiled, ifaces, maps, wideKeys, modest, calm, conditions, laid).
  DERIVED. THE GIVEN ROWS OF THIS SEAT. 7 by the template 'for every input the law returns true; each argument reads behind the call as it read before'; 0 by the template 'total and deterministic' (their statements: YtknahehmkjaelabTotals.lean).
  GIVEN WITH THE SEED: the statements are not yours to turn. If you find one false, say at which input.
  Laid BY PROGRAM, IN A SANDBOX (cutbox-rows.mjs): the forced cells as the released guide's own fill.sh prints them over the translation 4654fb4936c43cf3… (all of the seat's roots in one cut). By AI agents, Wed Nov 11 2026. No macro, syntax, notation, axiom, sorry.
-/
import Derived.Test.YtknahehmkjaelabChecked
import GoSem.Claim
import GoSem.ClaimJoined
import GoSem.ClaimMapViews
import Derived.JoinedTies
import Derived.KernelRfl
namespace Go.Proofs.Ytknahehmkjaelab
/- THE CELL 'sum', in the pinned program and in every row, IS THE sha256 OF THE DUMP (.gsa) THAT YtknahehmkjaelabProg.lean LOADS. Nothing in Lean hashes anything: it is a label: what it is worth is what the hold of that sum in a sandbox is worth. -/
noncomputable def Try.pinned : Pinned := { name := "ytknahehmkjaelab", sum := "4654fb4936c43cf38d5eedf639a02d017fcf9fe74c9fc2bd8e5c493e828c59e6", checked := Try.checked }
namespace Rows
def none {H : Type} : Left H := { results := [], args := [] }

/-- 'debenturelaw02.DateMonths': WHATEVER THE INPUT: true; the input reads as it did. -/
def dateMonthsSpec : ChangeSpec := { name := "dateMonths", fn := fun _ => fun
  | [d1, d2] => { results := [.lit (.bool true)], args := [d1, d2] }
  | _ => none }
def dateMonthsRow : OpenClaim := { program := "ytknahehmkjaelab", sum := "4654fb4936c43cf38d5eedf639a02d017fcf9fe74c9fc2bd8e5c493e828c59e6", func := "debenture/debenturelaw02.DateMonths", spec := "dateMonths", inPlace := ["internal/abi.NoEscape"], unfollowed := true, recurses := true, apart := false }
def DateMonthsSaid : Prop := dateMonthsRow.holds Try.pinned (OpenSpec.ofChange dateMonthsSpec)

/-- ITS FALSE NEIGHBOUR: 'it returns false'. Refute it at one input. -/
def dateMonthsWrong : ChangeSpec := { name := "dateMonths", fn := fun _ => fun
  | [d1, d2] => { results := [.lit (.bool false)], args := [d1, d2] }
  | _ => none }
def DateMonthsWrongFalsely : Prop := dateMonthsRow.holds Try.pinned (OpenSpec.ofChange dateMonthsWrong)

/-- 'debenturelaw02.DateAdjusts': WHATEVER THE INPUT: true; the input reads as it did. -/
def dateAdjustsSpec : ChangeSpec := { name := "dateAdjusts", fn := fun _ => fun
  | [d1, d2, d3] => { results := [.lit (.bool true)], args := [d1, d2, d3] }
  | _ => none }
def dateAdjustsRow : OpenClaim := { program := "ytknahehmkjaelab", sum := "4654fb4936c43cf38d5eedf639a02d017fcf9fe74c9fc2bd8e5c493e828c59e6", func := "debenture/debenturelaw02.DateAdjusts", spec := "dateAdjusts", inPlace := ["internal/abi.NoEscape"], unfollowed := true, recurses := true, apart := false }
def DateAdjustsSaid : Prop := dateAdjustsRow.holds Try.pinned (OpenSpec.ofChange dateAdjustsSpec)

/-- ITS FALSE NEIGHBOUR: 'it returns false'. Refute it at one input. -/
def dateAdjustsWrong : ChangeSpec := { name := "dateAdjusts", fn := fun _ => fun
  | [d1, d2, d3] => { results := [.lit (.bool false)], args := [d1, d2, d3] }
  | _ => none }
def DateAdjustsWrongFalsely : Prop := dateAdjustsRow.holds Try.pinned (OpenSpec.ofChange dateAdjustsWrong)

/-- 'debenturelaw02.DateYears': WHATEVER THE INPUT: true; the input reads as it did. -/
def dateYearsSpec : ChangeSpec := { name := "dateYears", fn := fun _ => fun
  | [d1, d2, d3] => { results := [.lit (.bool true)], args := [d1, d2, d3] }
  | _ => none }
def dateYearsRow : OpenClaim := { program := "ytknahehmkjaelab", sum := "4654fb4936c43cf38d5eedf639a02d017fcf9fe74c9fc2bd8e5c493e828c59e6", func := "debenture/debenturelaw02.DateYears", spec := "dateYears", inPlace := ["internal/abi.NoEscape"], unfollowed := true, recurses := true, apart := false }
def DateYearsSaid : Prop := dateYearsRow.holds Try.pinned (OpenSpec.ofChange dateYearsSpec)

/-- ITS FALSE NEIGHBOUR: 'it returns false'. Refute it at one input. -/
def dateYearsWrong : ChangeSpec := { name := "dateYears", fn := fun _ => fun
  | [d1, d2, d3] => { results := [.lit (.bool false)], args := [d1, d2, d3] }
  | _ => none }
def DateYearsWrongFalsely : Prop := dateYearsRow.holds Try.pinned (OpenSpec.ofChange dateYearsWrong)

/-- 'debenturelaw02.DateSchedules': WHATEVER THE INPUT: true; the input reads as it did. -/
def dateSchedulesSpec : ChangeSpec := { name := "dateSchedules", fn := fun _ => fun
  | [d1, d2, d3, d4, d5] => { results := [.lit (.bool true)], args := [d1, d2, d3, d4, d5] }
  | _ => none }
def dateSchedulesRow : OpenClaim := { program := "ytknahehmkjaelab", sum := "4654fb4936c43cf38d5eedf639a02d017fcf9fe74c9fc2bd8e5c493e828c59e6", func := "debenture/debenturelaw02.DateSchedules", spec := "dateSchedules", inPlace := ["internal/abi.NoEscape"], unfollowed := true, recurses := true, apart := false }
def DateSchedulesSaid : Prop := dateSchedulesRow.holds Try.pinned (OpenSpec.ofChange dateSchedulesSpec)

/-- ITS FALSE NEIGHBOUR: 'it returns false'. Refute it at one input. -/
def dateSchedulesWrong : ChangeSpec := { name := "dateSchedules", fn := fun _ => fun
  | [d1, d2, d3, d4, d5] => { results := [.lit (.bool false)], args := [d1, d2, d3, d4, d5] }
  | _ => none }
def DateSchedulesWrongFalsely : Prop := dateSchedulesRow.holds Try.pinned (OpenSpec.ofChange dateSchedulesWrong)

/-- 'debenturelaw02.DateBack': WHATEVER THE INPUT: true; the input reads as it did. -/
def dateBackSpec : ChangeSpec := { name := "dateBack", fn := fun _ => fun
  | [d] => { results := [.lit (.bool true)], args := [d] }
  | _ => none }
def dateBackRow : OpenClaim := { program := "ytknahehmkjaelab", sum := "4654fb4936c43cf38d5eedf639a02d017fcf9fe74c9fc2bd8e5c493e828c59e6", func := "debenture/debenturelaw02.DateBack", spec := "dateBack", inPlace := ["internal/abi.NoEscape"], unfollowed := true, recurses := true, apart := false }
def DateBackSaid : Prop := dateBackRow.holds Try.pinned (OpenSpec.ofChange dateBackSpec)

/-- ITS FALSE NEIGHBOUR: 'it returns false'. Refute it at one input. -/
def dateBackWrong : ChangeSpec := { name := "dateBack", fn := fun _ => fun
  | [d] => { results := [.lit (.bool false)], args := [d] }
  | _ => none }
def DateBackWrongFalsely : Prop := dateBackRow.holds Try.pinned (OpenSpec.ofChange dateBackWrong)

/-- 'debenturelaw02.DateSteps': WHATEVER THE INPUT: true; the input reads as it did. -/
def dateStepsSpec : ChangeSpec := { name := "dateSteps", fn := fun _ => fun
  | [d1, d2] => { results := [.lit (.bool true)], args := [d1, d2] }
  | _ => none }
def dateStepsRow : OpenClaim := { program := "ytknahehmkjaelab", sum := "4654fb4936c43cf38d5eedf639a02d017fcf9fe74c9fc2bd8e5c493e828c59e6", func := "debenture/debenturelaw02.DateSteps", spec := "dateSteps", inPlace := ["internal/abi.NoEscape"], unfollowed := true, recurses := true, apart := false }
def DateStepsSaid : Prop := dateStepsRow.holds Try.pinned (OpenSpec.ofChange dateStepsSpec)

/-- ITS FALSE NEIGHBOUR: 'it returns false'. Refute it at one input. -/
def dateStepsWrong : ChangeSpec := { name := "dateSteps", fn := fun _ => fun
  | [d1, d2] => { results := [.lit (.bool false)], args := [d1, d2] }
  | _ => none }
def DateStepsWrongFalsely : Prop := dateStepsRow.holds Try.pinned (OpenSpec.ofChange dateStepsWrong)

/-- 'debenturelaw02.DateAdjusted': WHATEVER THE INPUT: true; the input reads as it did. -/
def dateAdjustedSpec : ChangeSpec := { name := "dateAdjusted", fn := fun _ => fun
  | [d1, d2, d3] => { results := [.lit (.bool true)], args := [d1, d2, d3] }
  | _ => none }
def dateAdjustedRow : OpenClaim := { program := "ytknahehmkjaelab", sum := "4654fb4936c43cf38d5eedf639a02d017fcf9fe74c9fc2bd8e5c493e828c59e6", func := "debenture/debenturelaw02.DateAdjusted", spec := "dateAdjusted", inPlace := ["internal/abi.NoEscape"], unfollowed := true, recurses := true, apart := false }
def DateAdjustedSaid : Prop := dateAdjustedRow.holds Try.pinned (OpenSpec.ofChange dateAdjustedSpec)

/-- ITS FALSE NEIGHBOUR: 'it returns false'. Refute it at one input. -/
def dateAdjustedWrong : ChangeSpec := { name := "dateAdjusted", fn := fun _ => fun
  | [d1, d2, d3] => { results := [.lit (.bool false)], args := [d1, d2, d3] }
  | _ => none }
def DateAdjustedWrongFalsely : Prop := dateAdjustedRow.holds Try.pinned (OpenSpec.ofChange dateAdjustedWrong)

/- THE SECOND FORM. 'bulk': how many values and letters a reading holds, each counted each time it is reached (what is shared counts as often as it is met; a slice's spare places count too). A statement '..UptoSaid' is the law's where the arguments, and the package variables that the reading takes, are together of bulk at most 1048576: NARROWER than '..Said'. Prove '..Said' where nothing that the law and all that it calls make is longer than what came in: it says more and counts as full. Else prove '..UptoSaid'. A law counts once. -/
mutual
def uptoBulk {H : Type} : DataW H → Nat
  | .lit (.string bytes) => bytes.length + 1
  | .lit _ => 1
  | .nil => 1
  | .ptr d => uptoBulk d + 1
  | .slice elems spare => uptoBulkAll elems + uptoBulkAll spare + 1
  | .agg parts => uptoBulkAll parts + 1
  | .iface _ d => uptoBulk d + 1
  | .map entries => uptoBulkEntries entries + 1
  | .held _ => 1
def uptoBulkAll {H : Type} : List (DataW H) → Nat
  | [] => 0
  | d :: r => uptoBulk d + uptoBulkAll r
def uptoBulkEntries {H : Type} : List (Lit × DataW H) → Nat
  | [] => 0
  | x :: r => uptoBulkEntry x + uptoBulkEntries r
def uptoBulkEntry {H : Type} : Lit × DataW H → Nat
  | (.string bytes, d) => bytes.length + uptoBulk d + 1
  | (_, d) => uptoBulk d + 1
 end
def uptoSmall : (H : Type) → List (DataW H) → Bool := fun _ ds => decide (uptoBulkAll ds ≤ 1048576)
def OpenSpec.upto (s : _root_.Go.ChangeSpec) : _root_.Go.OpenSpec := { _root_.Go.OpenSpec.ofChange s with cond := some uptoSmall }

/-- 'debenturelaw02.DateMonths', WHERE WHAT IT READS IS OF BULK AT MOST 1048576: true; the input reads as it did. -/
def dateMonthsUptoRow : OpenClaim := { program := "ytknahehmkjaelab", sum := "4654fb4936c43cf38d5eedf639a02d017fcf9fe74c9fc2bd8e5c493e828c59e6", func := "debenture/debenturelaw02.DateMonths", spec := "dateMonths", inPlace := ["internal/abi.NoEscape"], unfollowed := true, recurses := true, apart := false, narrowed := true }
def DateMonthsUptoSaid : Prop := dateMonthsUptoRow.holds Try.pinned (OpenSpec.upto dateMonthsSpec)

/-- 'debenturelaw02.DateAdjusts', WHERE WHAT IT READS IS OF BULK AT MOST 1048576: true; the input reads as it did. -/
def dateAdjustsUptoRow : OpenClaim := { program := "ytknahehmkjaelab", sum := "4654fb4936c43cf38d5eedf639a02d017fcf9fe74c9fc2bd8e5c493e828c59e6", func := "debenture/debenturelaw02.DateAdjusts", spec := "dateAdjusts", inPlace := ["internal/abi.NoEscape"], unfollowed := true, recurses := true, apart := false, narrowed := true }
def DateAdjustsUptoSaid : Prop := dateAdjustsUptoRow.holds Try.pinned (OpenSpec.upto dateAdjustsSpec)

/-- 'debenturelaw02.DateYears', WHERE WHAT IT READS IS OF BULK AT MOST 1048576: true; the input reads as it did. -/
def dateYearsUptoRow : OpenClaim := { program := "ytknahehmkjaelab", sum := "4654fb4936c43cf38d5eedf639a02d017fcf9fe74c9fc2bd8e5c493e828c59e6", func := "debenture/debenturelaw02.DateYears", spec := "dateYears", inPlace := ["internal/abi.NoEscape"], unfollowed := true, recurses := true, apart := false, narrowed := true }
def DateYearsUptoSaid : Prop := dateYearsUptoRow.holds Try.pinned (OpenSpec.upto dateYearsSpec)

/-- 'debenturelaw02.DateSchedules', WHERE WHAT IT READS IS OF BULK AT MOST 1048576: true; the input reads as it did. -/
def dateSchedulesUptoRow : OpenClaim := { program := "ytknahehmkjaelab", sum := "4654fb4936c43cf38d5eedf639a02d017fcf9fe74c9fc2bd8e5c493e828c59e6", func := "debenture/debenturelaw02.DateSchedules", spec := "dateSchedules", inPlace := ["internal/abi.NoEscape"], unfollowed := true, recurses := true, apart := false, narrowed := true }
def DateSchedulesUptoSaid : Prop := dateSchedulesUptoRow.holds Try.pinned (OpenSpec.upto dateSchedulesSpec)

/-- 'debenturelaw02.DateBack', WHERE WHAT IT READS IS OF BULK AT MOST 1048576: true; the input reads as it did. -/
def dateBackUptoRow : OpenClaim := { program := "ytknahehmkjaelab", sum := "4654fb4936c43cf38d5eedf639a02d017fcf9fe74c9fc2bd8e5c493e828c59e6", func := "debenture/debenturelaw02.DateBack", spec := "dateBack", inPlace := ["internal/abi.NoEscape"], unfollowed := true, recurses := true, apart := false, narrowed := true }
def DateBackUptoSaid : Prop := dateBackUptoRow.holds Try.pinned (OpenSpec.upto dateBackSpec)

/-- 'debenturelaw02.DateSteps', WHERE WHAT IT READS IS OF BULK AT MOST 1048576: true; the input reads as it did. -/
def dateStepsUptoRow : OpenClaim := { program := "ytknahehmkjaelab", sum := "4654fb4936c43cf38d5eedf639a02d017fcf9fe74c9fc2bd8e5c493e828c59e6", func := "debenture/debenturelaw02.DateSteps", spec := "dateSteps", inPlace := ["internal/abi.NoEscape"], unfollowed := true, recurses := true, apart := false, narrowed := true }
def DateStepsUptoSaid : Prop := dateStepsUptoRow.holds Try.pinned (OpenSpec.upto dateStepsSpec)

/-- 'debenturelaw02.DateAdjusted', WHERE WHAT IT READS IS OF BULK AT MOST 1048576: true; the input reads as it did. -/
def dateAdjustedUptoRow : OpenClaim := { program := "ytknahehmkjaelab", sum := "4654fb4936c43cf38d5eedf639a02d017fcf9fe74c9fc2bd8e5c493e828c59e6", func := "debenture/debenturelaw02.DateAdjusted", spec := "dateAdjusted", inPlace := ["internal/abi.NoEscape"], unfollowed := true, recurses := true, apart := false, narrowed := true }
def DateAdjustedUptoSaid : Prop := dateAdjustedUptoRow.holds Try.pinned (OpenSpec.upto dateAdjustedSpec)

end Rows
end Go.Proofs.Ytknahehmkjaelab
