/-
  No cell of these rows narrows 'for every input' (looked for: loops, veiled, ifaces, maps, wideKeys, modest, calm, conditions, laid).
  DERIVED. THE GIVEN ROWS OF THIS SEAT. 10 by the template 'for every input the law returns true; each argument reads behind the call as it read before'; 0 by the template 'total and deterministic' (their statements: YtidldlhhmophjaaTotals.lean).
  GIVEN WITH THE SEED: the statements are not yours to turn. If you find one false, say at which input.
  Laid BY PROGRAM, IN A SANDBOX (cutbox-rows.mjs): the forced cells as the released guide's own fill.sh prints them over the translation 31cc912362a73c48… (all of the seat's roots in one cut). By AI agents, Wed Nov 11 2026. No macro, syntax, notation, axiom, sorry.
-/
import Derived.Test.YtidldlhhmophjaaChecked
import GoSem.Claim
import GoSem.ClaimJoined
import GoSem.ClaimMapViews
import Derived.JoinedTies
import Derived.KernelRfl
namespace Go.Proofs.Ytidldlhhmophjaa
/- THE CELL 'sum', in the pinned program and in every row, IS THE sha256 OF THE DUMP (.gsa) THAT YtidldlhhmophjaaProg.lean LOADS. Nothing in Lean hashes anything: it is a label: what it is worth is what the hold of that sum in a sandbox is worth. -/
noncomputable def Try.pinned : Pinned := { name := "ytidldlhhmophjaa", sum := "31cc912362a73c482acabc9559f826ab15d57c4f260d586670d01f6d259156f0", checked := Try.checked }
namespace Rows
def none {H : Type} : Left H := { results := [], args := [] }

/-- 'debenturelaw21.CheckKinds': WHATEVER THE INPUT: true; the input reads as it did. -/
def checkKindsSpec : ChangeSpec := { name := "checkKinds", fn := fun _ => fun
  | [d] => { results := [.lit (.bool true)], args := [d] }
  | _ => none }
def checkKindsRow : OpenClaim := { program := "ytidldlhhmophjaa", sum := "31cc912362a73c482acabc9559f826ab15d57c4f260d586670d01f6d259156f0", func := "debenture/debenturelaw21.CheckKinds", spec := "checkKinds", unfollowed := true, recurses := true, named := ["math/bits.divideError", "math/bits.overflowError"], apart := false }
def CheckKindsSaid : Prop := checkKindsRow.holds Try.pinned (OpenSpec.ofChange checkKindsSpec)

/-- ITS FALSE NEIGHBOUR: 'it returns false'. Refute it at one input. -/
def checkKindsWrong : ChangeSpec := { name := "checkKinds", fn := fun _ => fun
  | [d] => { results := [.lit (.bool false)], args := [d] }
  | _ => none }
def CheckKindsWrongFalsely : Prop := checkKindsRow.holds Try.pinned (OpenSpec.ofChange checkKindsWrong)

/-- 'debenturelaw21.CheckFits': WHATEVER THE INPUT: true; the input reads as it did. -/
def checkFitsSpec : ChangeSpec := { name := "checkFits", fn := fun _ => fun
  | [d1, d2] => { results := [.lit (.bool true)], args := [d1, d2] }
  | _ => none }
def checkFitsRow : OpenClaim := { program := "ytidldlhhmophjaa", sum := "31cc912362a73c482acabc9559f826ab15d57c4f260d586670d01f6d259156f0", func := "debenture/debenturelaw21.CheckFits", spec := "checkFits", unfollowed := true, recurses := true, named := ["math/bits.divideError", "math/bits.overflowError"], apart := false }
def CheckFitsSaid : Prop := checkFitsRow.holds Try.pinned (OpenSpec.ofChange checkFitsSpec)

/-- ITS FALSE NEIGHBOUR: 'it returns false'. Refute it at one input. -/
def checkFitsWrong : ChangeSpec := { name := "checkFits", fn := fun _ => fun
  | [d1, d2] => { results := [.lit (.bool false)], args := [d1, d2] }
  | _ => none }
def CheckFitsWrongFalsely : Prop := checkFitsRow.holds Try.pinned (OpenSpec.ofChange checkFitsWrong)

/-- 'debenturelaw21.CheckFolds': WHATEVER THE INPUT: true; the input reads as it did. -/
def checkFoldsSpec : ChangeSpec := { name := "checkFolds", fn := fun _ => fun
  | [d1, d2] => { results := [.lit (.bool true)], args := [d1, d2] }
  | _ => none }
def checkFoldsRow : OpenClaim := { program := "ytidldlhhmophjaa", sum := "31cc912362a73c482acabc9559f826ab15d57c4f260d586670d01f6d259156f0", func := "debenture/debenturelaw21.CheckFolds", spec := "checkFolds", unfollowed := true, recurses := true, named := ["math/bits.divideError", "math/bits.overflowError"], apart := false }
def CheckFoldsSaid : Prop := checkFoldsRow.holds Try.pinned (OpenSpec.ofChange checkFoldsSpec)

/-- ITS FALSE NEIGHBOUR: 'it returns false'. Refute it at one input. -/
def checkFoldsWrong : ChangeSpec := { name := "checkFolds", fn := fun _ => fun
  | [d1, d2] => { results := [.lit (.bool false)], args := [d1, d2] }
  | _ => none }
def CheckFoldsWrongFalsely : Prop := checkFoldsRow.holds Try.pinned (OpenSpec.ofChange checkFoldsWrong)

/-- 'debenturelaw21.CheckFolded': WHATEVER THE INPUT: true; the input reads as it did. -/
def checkFoldedSpec : ChangeSpec := { name := "checkFolded", fn := fun _ => fun
  | [d] => { results := [.lit (.bool true)], args := [d] }
  | _ => none }
def checkFoldedRow : OpenClaim := { program := "ytidldlhhmophjaa", sum := "31cc912362a73c482acabc9559f826ab15d57c4f260d586670d01f6d259156f0", func := "debenture/debenturelaw21.CheckFolded", spec := "checkFolded", unfollowed := true, recurses := true, named := ["math/bits.divideError", "math/bits.overflowError"], apart := false }
def CheckFoldedSaid : Prop := checkFoldedRow.holds Try.pinned (OpenSpec.ofChange checkFoldedSpec)

/-- ITS FALSE NEIGHBOUR: 'it returns false'. Refute it at one input. -/
def checkFoldedWrong : ChangeSpec := { name := "checkFolded", fn := fun _ => fun
  | [d] => { results := [.lit (.bool false)], args := [d] }
  | _ => none }
def CheckFoldedWrongFalsely : Prop := checkFoldedRow.holds Try.pinned (OpenSpec.ofChange checkFoldedWrong)

/-- 'debenturelaw21.CheckWithin': WHATEVER THE INPUT: true; the input reads as it did. -/
def checkWithinSpec : ChangeSpec := { name := "checkWithin", fn := fun _ => fun
  | [d1, d2] => { results := [.lit (.bool true)], args := [d1, d2] }
  | _ => none }
def checkWithinRow : OpenClaim := { program := "ytidldlhhmophjaa", sum := "31cc912362a73c482acabc9559f826ab15d57c4f260d586670d01f6d259156f0", func := "debenture/debenturelaw21.CheckWithin", spec := "checkWithin", unfollowed := true, recurses := true, named := ["math/bits.divideError", "math/bits.overflowError"], apart := false }
def CheckWithinSaid : Prop := checkWithinRow.holds Try.pinned (OpenSpec.ofChange checkWithinSpec)

/-- ITS FALSE NEIGHBOUR: 'it returns false'. Refute it at one input. -/
def checkWithinWrong : ChangeSpec := { name := "checkWithin", fn := fun _ => fun
  | [d1, d2] => { results := [.lit (.bool false)], args := [d1, d2] }
  | _ => none }
def CheckWithinWrongFalsely : Prop := checkWithinRow.holds Try.pinned (OpenSpec.ofChange checkWithinWrong)

/-- 'debenturelaw22.ObsSees': WHATEVER THE INPUT: true; the input reads as it did. -/
def obsSeesSpec : ChangeSpec := { name := "obsSees", fn := fun _ => fun
  | [d1, d2] => { results := [.lit (.bool true)], args := [d1, d2] }
  | _ => none }
def obsSeesRow : OpenClaim := { program := "ytidldlhhmophjaa", sum := "31cc912362a73c482acabc9559f826ab15d57c4f260d586670d01f6d259156f0", func := "debenture/debenturelaw22.ObsSees", spec := "obsSees", unfollowed := true, recurses := true, named := ["math/bits.divideError", "math/bits.overflowError"], apart := false }
def ObsSeesSaid : Prop := obsSeesRow.holds Try.pinned (OpenSpec.ofChange obsSeesSpec)

/-- ITS FALSE NEIGHBOUR: 'it returns false'. Refute it at one input. -/
def obsSeesWrong : ChangeSpec := { name := "obsSees", fn := fun _ => fun
  | [d1, d2] => { results := [.lit (.bool false)], args := [d1, d2] }
  | _ => none }
def ObsSeesWrongFalsely : Prop := obsSeesRow.holds Try.pinned (OpenSpec.ofChange obsSeesWrong)

/-- 'debenturelaw22.ObsEvals': WHATEVER THE INPUT: true; the input reads as it did. -/
def obsEvalsSpec : ChangeSpec := { name := "obsEvals", fn := fun _ => fun
  | [d1, d2] => { results := [.lit (.bool true)], args := [d1, d2] }
  | _ => none }
def obsEvalsRow : OpenClaim := { program := "ytidldlhhmophjaa", sum := "31cc912362a73c482acabc9559f826ab15d57c4f260d586670d01f6d259156f0", func := "debenture/debenturelaw22.ObsEvals", spec := "obsEvals", unfollowed := true, recurses := true, named := ["math/bits.divideError", "math/bits.overflowError"], apart := false }
def ObsEvalsSaid : Prop := obsEvalsRow.holds Try.pinned (OpenSpec.ofChange obsEvalsSpec)

/-- ITS FALSE NEIGHBOUR: 'it returns false'. Refute it at one input. -/
def obsEvalsWrong : ChangeSpec := { name := "obsEvals", fn := fun _ => fun
  | [d1, d2] => { results := [.lit (.bool false)], args := [d1, d2] }
  | _ => none }
def ObsEvalsWrongFalsely : Prop := obsEvalsRow.holds Try.pinned (OpenSpec.ofChange obsEvalsWrong)

/-- 'debenturelaw22.ObsNeeds': WHATEVER THE INPUT: true; the input reads as it did. -/
def obsNeedsSpec : ChangeSpec := { name := "obsNeeds", fn := fun _ => fun
  | [d1, d2] => { results := [.lit (.bool true)], args := [d1, d2] }
  | _ => none }
def obsNeedsRow : OpenClaim := { program := "ytidldlhhmophjaa", sum := "31cc912362a73c482acabc9559f826ab15d57c4f260d586670d01f6d259156f0", func := "debenture/debenturelaw22.ObsNeeds", spec := "obsNeeds", unfollowed := true, recurses := true, named := ["math/bits.divideError", "math/bits.overflowError"], apart := false }
def ObsNeedsSaid : Prop := obsNeedsRow.holds Try.pinned (OpenSpec.ofChange obsNeedsSpec)

/-- ITS FALSE NEIGHBOUR: 'it returns false'. Refute it at one input. -/
def obsNeedsWrong : ChangeSpec := { name := "obsNeeds", fn := fun _ => fun
  | [d1, d2] => { results := [.lit (.bool false)], args := [d1, d2] }
  | _ => none }
def ObsNeedsWrongFalsely : Prop := obsNeedsRow.holds Try.pinned (OpenSpec.ofChange obsNeedsWrong)

/-- 'debenturelaw22.ObsKnown': WHATEVER THE INPUT: true; the input reads as it did. -/
def obsKnownSpec : ChangeSpec := { name := "obsKnown", fn := fun _ => fun
  | [d1, d2, d3] => { results := [.lit (.bool true)], args := [d1, d2, d3] }
  | _ => none }
def obsKnownRow : OpenClaim := { program := "ytidldlhhmophjaa", sum := "31cc912362a73c482acabc9559f826ab15d57c4f260d586670d01f6d259156f0", func := "debenture/debenturelaw22.ObsKnown", spec := "obsKnown", unfollowed := true, recurses := true, named := ["math/bits.divideError", "math/bits.overflowError"], apart := false }
def ObsKnownSaid : Prop := obsKnownRow.holds Try.pinned (OpenSpec.ofChange obsKnownSpec)

/-- ITS FALSE NEIGHBOUR: 'it returns false'. Refute it at one input. -/
def obsKnownWrong : ChangeSpec := { name := "obsKnown", fn := fun _ => fun
  | [d1, d2, d3] => { results := [.lit (.bool false)], args := [d1, d2, d3] }
  | _ => none }
def ObsKnownWrongFalsely : Prop := obsKnownRow.holds Try.pinned (OpenSpec.ofChange obsKnownWrong)

/-- 'debenturelaw22.ObsFolds': WHATEVER THE INPUT: true; the input reads as it did. -/
def obsFoldsSpec : ChangeSpec := { name := "obsFolds", fn := fun _ => fun
  | [d1, d2] => { results := [.lit (.bool true)], args := [d1, d2] }
  | _ => none }
def obsFoldsRow : OpenClaim := { program := "ytidldlhhmophjaa", sum := "31cc912362a73c482acabc9559f826ab15d57c4f260d586670d01f6d259156f0", func := "debenture/debenturelaw22.ObsFolds", spec := "obsFolds", unfollowed := true, recurses := true, named := ["math/bits.divideError", "math/bits.overflowError"], apart := false }
def ObsFoldsSaid : Prop := obsFoldsRow.holds Try.pinned (OpenSpec.ofChange obsFoldsSpec)

/-- ITS FALSE NEIGHBOUR: 'it returns false'. Refute it at one input. -/
def obsFoldsWrong : ChangeSpec := { name := "obsFolds", fn := fun _ => fun
  | [d1, d2] => { results := [.lit (.bool false)], args := [d1, d2] }
  | _ => none }
def ObsFoldsWrongFalsely : Prop := obsFoldsRow.holds Try.pinned (OpenSpec.ofChange obsFoldsWrong)

/- THE SECOND FORM. 'bulk': how many values and letters a reading holds, each counted each time it is reached (what is shared counts as often as it is met; a slice's spare places count too). A statement '..UptoSaid' is the law's where the arguments, and the package variables that the reading takes, are together of bulk at most 1048576: NARROWER than '..Said'. Prove '..Said' where nothing that the law and all that it calls make is longer than what came in: it says more and counts as full. Else prove '..UptoSaid'. A law counts once. -/
mutual
def uptoBulk {H : Type} : DataW H → Nat
  | .lit (.string bytes) => bytes.length + 1
  | .lit _ => 1
  | .nil => 1
  | .ptr d => uptoBulk d + 1
  | .slice elems spare => uptoBulkAll elems + uptoBulkAll spare + 1
  | .agg parts => uptoBulkAll parts + 1
  | .iface _ d => uptoBulk d + 1
  | .map entries => uptoBulkEntries entries + 1
  | .held _ => 1
def uptoBulkAll {H : Type} : List (DataW H) → Nat
  | [] => 0
  | d :: r => uptoBulk d + uptoBulkAll r
def uptoBulkEntries {H : Type} : List (Lit × DataW H) → Nat
  | [] => 0
  | x :: r => uptoBulkEntry x + uptoBulkEntries r
def uptoBulkEntry {H : Type} : Lit × DataW H → Nat
  | (.string bytes, d) => bytes.length + uptoBulk d + 1
  | (_, d) => uptoBulk d + 1
 end
def uptoSmall : (H : Type) → List (DataW H) → Bool := fun _ ds => decide (uptoBulkAll ds ≤ 1048576)
def OpenSpec.upto (s : _root_.Go.ChangeSpec) : _root_.Go.OpenSpec := { _root_.Go.OpenSpec.ofChange s with cond := some uptoSmall }

/-- 'debenturelaw21.CheckKinds', WHERE WHAT IT READS IS OF BULK AT MOST 1048576: true; the input reads as it did. -/
def checkKindsUptoRow : OpenClaim := { program := "ytidldlhhmophjaa", sum := "31cc912362a73c482acabc9559f826ab15d57c4f260d586670d01f6d259156f0", func := "debenture/debenturelaw21.CheckKinds", spec := "checkKinds", unfollowed := true, recurses := true, named := ["math/bits.divideError", "math/bits.overflowError"], apart := false, narrowed := true }
def CheckKindsUptoSaid : Prop := checkKindsUptoRow.holds Try.pinned (OpenSpec.upto checkKindsSpec)

/-- 'debenturelaw21.CheckFits', WHERE WHAT IT READS IS OF BULK AT MOST 1048576: true; the input reads as it did. -/
def checkFitsUptoRow : OpenClaim := { program := "ytidldlhhmophjaa", sum := "31cc912362a73c482acabc9559f826ab15d57c4f260d586670d01f6d259156f0", func := "debenture/debenturelaw21.CheckFits", spec := "checkFits", unfollowed := true, recurses := true, named := ["math/bits.divideError", "math/bits.overflowError"], apart := false, narrowed := true }
def CheckFitsUptoSaid : Prop := checkFitsUptoRow.holds Try.pinned (OpenSpec.upto checkFitsSpec)

/-- 'debenturelaw21.CheckFolds', WHERE WHAT IT READS IS OF BULK AT MOST 1048576: true; the input reads as it did. -/
def checkFoldsUptoRow : OpenClaim := { program := "ytidldlhhmophjaa", sum := "31cc912362a73c482acabc9559f826ab15d57c4f260d586670d01f6d259156f0", func := "debenture/debenturelaw21.CheckFolds", spec := "checkFolds", unfollowed := true, recurses := true, named := ["math/bits.divideError", "math/bits.overflowError"], apart := false, narrowed := true }
def CheckFoldsUptoSaid : Prop := checkFoldsUptoRow.holds Try.pinned (OpenSpec.upto checkFoldsSpec)

/-- 'debenturelaw21.CheckFolded', WHERE WHAT IT READS IS OF BULK AT MOST 1048576: true; the input reads as it did. -/
def checkFoldedUptoRow : OpenClaim := { program := "ytidldlhhmophjaa", sum := "31cc912362a73c482acabc9559f826ab15d57c4f260d586670d01f6d259156f0", func := "debenture/debenturelaw21.CheckFolded", spec := "checkFolded", unfollowed := true, recurses := true, named := ["math/bits.divideError", "math/bits.overflowError"], apart := false, narrowed := true }
def CheckFoldedUptoSaid : Prop := checkFoldedUptoRow.holds Try.pinned (OpenSpec.upto checkFoldedSpec)

/-- 'debenturelaw21.CheckWithin', WHERE WHAT IT READS IS OF BULK AT MOST 1048576: true; the input reads as it did. -/
def checkWithinUptoRow : OpenClaim := { program := "ytidldlhhmophjaa", sum := "31cc912362a73c482acabc9559f826ab15d57c4f260d586670d01f6d259156f0", func := "debenture/debenturelaw21.CheckWithin", spec := "checkWithin", unfollowed := true, recurses := true, named := ["math/bits.divideError", "math/bits.overflowError"], apart := false, narrowed := true }
def CheckWithinUptoSaid : Prop := checkWithinUptoRow.holds Try.pinned (OpenSpec.upto checkWithinSpec)

/-- 'debenturelaw22.ObsSees', WHERE WHAT IT READS IS OF BULK AT MOST 1048576: true; the input reads as it did. -/
def obsSeesUptoRow : OpenClaim := { program := "ytidldlhhmophjaa", sum := "31cc912362a73c482acabc9559f826ab15d57c4f260d586670d01f6d259156f0", func := "debenture/debenturelaw22.ObsSees", spec := "obsSees", unfollowed := true, recurses := true, named := ["math/bits.divideError", "math/bits.overflowError"], apart := false, narrowed := true }
def ObsSeesUptoSaid : Prop := obsSeesUptoRow.holds Try.pinned (OpenSpec.upto obsSeesSpec)

/-- 'debenturelaw22.ObsEvals', WHERE WHAT IT READS IS OF BULK AT MOST 1048576: true; the input reads as it did. -/
def obsEvalsUptoRow : OpenClaim := { program := "ytidldlhhmophjaa", sum := "31cc912362a73c482acabc9559f826ab15d57c4f260d586670d01f6d259156f0", func := "debenture/debenturelaw22.ObsEvals", spec := "obsEvals", unfollowed := true, recurses := true, named := ["math/bits.divideError", "math/bits.overflowError"], apart := false, narrowed := true }
def ObsEvalsUptoSaid : Prop := obsEvalsUptoRow.holds Try.pinned (OpenSpec.upto obsEvalsSpec)

/-- 'debenturelaw22.ObsNeeds', WHERE WHAT IT READS IS OF BULK AT MOST 1048576: true; the input reads as it did. -/
def obsNeedsUptoRow : OpenClaim := { program := "ytidldlhhmophjaa", sum := "31cc912362a73c482acabc9559f826ab15d57c4f260d586670d01f6d259156f0", func := "debenture/debenturelaw22.ObsNeeds", spec := "obsNeeds", unfollowed := true, recurses := true, named := ["math/bits.divideError", "math/bits.overflowError"], apart := false, narrowed := true }
def ObsNeedsUptoSaid : Prop := obsNeedsUptoRow.holds Try.pinned (OpenSpec.upto obsNeedsSpec)

/-- 'debenturelaw22.ObsKnown', WHERE WHAT IT READS IS OF BULK AT MOST 1048576: true; the input reads as it did. -/
def obsKnownUptoRow : OpenClaim := { program := "ytidldlhhmophjaa", sum := "31cc912362a73c482acabc9559f826ab15d57c4f260d586670d01f6d259156f0", func := "debenture/debenturelaw22.ObsKnown", spec := "obsKnown", unfollowed := true, recurses := true, named := ["math/bits.divideError", "math/bits.overflowError"], apart := false, narrowed := true }
def ObsKnownUptoSaid : Prop := obsKnownUptoRow.holds Try.pinned (OpenSpec.upto obsKnownSpec)

/-- 'debenturelaw22.ObsFolds', WHERE WHAT IT READS IS OF BULK AT MOST 1048576: true; the input reads as it did. -/
def obsFoldsUptoRow : OpenClaim := { program := "ytidldlhhmophjaa", sum := "31cc912362a73c482acabc9559f826ab15d57c4f260d586670d01f6d259156f0", func := "debenture/debenturelaw22.ObsFolds", spec := "obsFolds", unfollowed := true, recurses := true, named := ["math/bits.divideError", "math/bits.overflowError"], apart := false, narrowed := true }
def ObsFoldsUptoSaid : Prop := obsFoldsUptoRow.holds Try.pinned (OpenSpec.upto obsFoldsSpec)

end Rows
end Go.Proofs.Ytidldlhhmophjaa
