/-
  No cell of these rows narrows 'for every input' (looked for: loops, veiled, ifaces, maps, wideKeys, modest, calm, conditions, laid).
  DERIVED. THE GIVEN ROWS OF THIS SEAT. 5 by the template 'for every input the law returns true; each argument reads behind the call as it read before'; 0 by the template 'total and deterministic' (their statements: YthodlkacfcnhnaaTotals.lean).
  GIVEN WITH THE SEED: the statements are not yours to turn. If you find one false, say at which input.
  Laid BY PROGRAM, IN A SANDBOX (cutbox-rows.mjs): the forced cells as the released guide's own fill.sh prints them over the translation eaaeda440cbf78f7… (all of the seat's roots in one cut). By AI agents, Wed Nov 11 2026. No macro, syntax, notation, axiom, sorry.
-/
import Derived.Test.YthodlkacfcnhnaaChecked
import GoSem.Claim
import GoSem.ClaimJoined
import GoSem.ClaimMapViews
import Derived.JoinedTies
import Derived.KernelRfl
namespace Go.Proofs.Ythodlkacfcnhnaa
/- THE CELL 'sum', in the pinned program and in every row, IS THE sha256 OF THE DUMP (.gsa) THAT YthodlkacfcnhnaaProg.lean LOADS. Nothing in Lean hashes anything: it is a label: what it is worth is what the hold of that sum in a sandbox is worth. -/
noncomputable def Try.pinned : Pinned := { name := "ythodlkacfcnhnaa", sum := "eaaeda440cbf78f79348cb0dd0d8fc61dc6b925475dee451bfbf0297007591a1", checked := Try.checked }
namespace Rows
def none {H : Type} : Left H := { results := [], args := [] }

/-- 'debenturelaw15.LevelSettings': WHATEVER THE INPUT: true; the input reads as it did. -/
def levelSettingsSpec : ChangeSpec := { name := "levelSettings", fn := fun _ => fun
  | [d] => { results := [.lit (.bool true)], args := [d] }
  | _ => none }
def levelSettingsRow : OpenClaim := { program := "ythodlkacfcnhnaa", sum := "eaaeda440cbf78f79348cb0dd0d8fc61dc6b925475dee451bfbf0297007591a1", func := "debenture/debenturelaw15.LevelSettings", spec := "levelSettings", inPlace := ["math/bits.Add64"], unfollowed := true, recurses := true, apart := false }
def LevelSettingsSaid : Prop := levelSettingsRow.holds Try.pinned (OpenSpec.ofChange levelSettingsSpec)

/-- ITS FALSE NEIGHBOUR: 'it returns false'. Refute it at one input. -/
def levelSettingsWrong : ChangeSpec := { name := "levelSettings", fn := fun _ => fun
  | [d] => { results := [.lit (.bool false)], args := [d] }
  | _ => none }
def LevelSettingsWrongFalsely : Prop := levelSettingsRow.holds Try.pinned (OpenSpec.ofChange levelSettingsWrong)

/-- 'debenturelaw15.LevelFinds': WHATEVER THE INPUT: true; the input reads as it did. -/
def levelFindsSpec : ChangeSpec := { name := "levelFinds", fn := fun _ => fun
  | [d1, d2, d3, d4, d5] => { results := [.lit (.bool true)], args := [d1, d2, d3, d4, d5] }
  | _ => none }
def levelFindsRow : OpenClaim := { program := "ythodlkacfcnhnaa", sum := "eaaeda440cbf78f79348cb0dd0d8fc61dc6b925475dee451bfbf0297007591a1", func := "debenture/debenturelaw15.LevelFinds", spec := "levelFinds", inPlace := ["math/bits.Add64"], unfollowed := true, recurses := true, apart := false }
def LevelFindsSaid : Prop := levelFindsRow.holds Try.pinned (OpenSpec.ofChange levelFindsSpec)

/-- ITS FALSE NEIGHBOUR: 'it returns false'. Refute it at one input. -/
def levelFindsWrong : ChangeSpec := { name := "levelFinds", fn := fun _ => fun
  | [d1, d2, d3, d4, d5] => { results := [.lit (.bool false)], args := [d1, d2, d3, d4, d5] }
  | _ => none }
def LevelFindsWrongFalsely : Prop := levelFindsRow.holds Try.pinned (OpenSpec.ofChange levelFindsWrong)

/-- 'debenturelaw15.LevelTakes': WHATEVER THE INPUT: true; the input reads as it did. -/
def levelTakesSpec : ChangeSpec := { name := "levelTakes", fn := fun _ => fun
  | [d1, d2] => { results := [.lit (.bool true)], args := [d1, d2] }
  | _ => none }
def levelTakesRow : OpenClaim := { program := "ythodlkacfcnhnaa", sum := "eaaeda440cbf78f79348cb0dd0d8fc61dc6b925475dee451bfbf0297007591a1", func := "debenture/debenturelaw15.LevelTakes", spec := "levelTakes", inPlace := ["math/bits.Add64"], unfollowed := true, recurses := true, apart := false }
def LevelTakesSaid : Prop := levelTakesRow.holds Try.pinned (OpenSpec.ofChange levelTakesSpec)

/-- ITS FALSE NEIGHBOUR: 'it returns false'. Refute it at one input. -/
def levelTakesWrong : ChangeSpec := { name := "levelTakes", fn := fun _ => fun
  | [d1, d2] => { results := [.lit (.bool false)], args := [d1, d2] }
  | _ => none }
def LevelTakesWrongFalsely : Prop := levelTakesRow.holds Try.pinned (OpenSpec.ofChange levelTakesWrong)

/-- 'debenturelaw15.LevelPicks': WHATEVER THE INPUT: true; the input reads as it did. -/
def levelPicksSpec : ChangeSpec := { name := "levelPicks", fn := fun _ => fun
  | [d1, d2] => { results := [.lit (.bool true)], args := [d1, d2] }
  | _ => none }
def levelPicksRow : OpenClaim := { program := "ythodlkacfcnhnaa", sum := "eaaeda440cbf78f79348cb0dd0d8fc61dc6b925475dee451bfbf0297007591a1", func := "debenture/debenturelaw15.LevelPicks", spec := "levelPicks", inPlace := ["math/bits.Add64"], unfollowed := true, recurses := true, apart := false }
def LevelPicksSaid : Prop := levelPicksRow.holds Try.pinned (OpenSpec.ofChange levelPicksSpec)

/-- ITS FALSE NEIGHBOUR: 'it returns false'. Refute it at one input. -/
def levelPicksWrong : ChangeSpec := { name := "levelPicks", fn := fun _ => fun
  | [d1, d2] => { results := [.lit (.bool false)], args := [d1, d2] }
  | _ => none }
def LevelPicksWrongFalsely : Prop := levelPicksRow.holds Try.pinned (OpenSpec.ofChange levelPicksWrong)

/-- 'debenturelaw15.LevelRests': WHATEVER THE INPUT: true; the input reads as it did. -/
def levelRestsSpec : ChangeSpec := { name := "levelRests", fn := fun _ => fun
  | [d1, d2] => { results := [.lit (.bool true)], args := [d1, d2] }
  | _ => none }
def levelRestsRow : OpenClaim := { program := "ythodlkacfcnhnaa", sum := "eaaeda440cbf78f79348cb0dd0d8fc61dc6b925475dee451bfbf0297007591a1", func := "debenture/debenturelaw15.LevelRests", spec := "levelRests", inPlace := ["math/bits.Add64"], unfollowed := true, recurses := true, apart := false }
def LevelRestsSaid : Prop := levelRestsRow.holds Try.pinned (OpenSpec.ofChange levelRestsSpec)

/-- ITS FALSE NEIGHBOUR: 'it returns false'. Refute it at one input. -/
def levelRestsWrong : ChangeSpec := { name := "levelRests", fn := fun _ => fun
  | [d1, d2] => { results := [.lit (.bool false)], args := [d1, d2] }
  | _ => none }
def LevelRestsWrongFalsely : Prop := levelRestsRow.holds Try.pinned (OpenSpec.ofChange levelRestsWrong)

/- THE SECOND FORM. 'bulk': how many values and letters a reading holds, each counted each time it is reached (what is shared counts as often as it is met; a slice's spare places count too). A statement '..UptoSaid' is the law's where the arguments, and the package variables that the reading takes, are together of bulk at most 1048576: NARROWER than '..Said'. Prove '..Said' where nothing that the law and all that it calls make is longer than what came in: it says more and counts as full. Else prove '..UptoSaid'. A law counts once. -/
mutual
def uptoBulk {H : Type} : DataW H → Nat
  | .lit (.string bytes) => bytes.length + 1
  | .lit _ => 1
  | .nil => 1
  | .ptr d => uptoBulk d + 1
  | .slice elems spare => uptoBulkAll elems + uptoBulkAll spare + 1
  | .agg parts => uptoBulkAll parts + 1
  | .iface _ d => uptoBulk d + 1
  | .map entries => uptoBulkEntries entries + 1
  | .held _ => 1
def uptoBulkAll {H : Type} : List (DataW H) → Nat
  | [] => 0
  | d :: r => uptoBulk d + uptoBulkAll r
def uptoBulkEntries {H : Type} : List (Lit × DataW H) → Nat
  | [] => 0
  | x :: r => uptoBulkEntry x + uptoBulkEntries r
def uptoBulkEntry {H : Type} : Lit × DataW H → Nat
  | (.string bytes, d) => bytes.length + uptoBulk d + 1
  | (_, d) => uptoBulk d + 1
 end
def uptoSmall : (H : Type) → List (DataW H) → Bool := fun _ ds => decide (uptoBulkAll ds ≤ 1048576)
def OpenSpec.upto (s : _root_.Go.ChangeSpec) : _root_.Go.OpenSpec := { _root_.Go.OpenSpec.ofChange s with cond := some uptoSmall }

/-- 'debenturelaw15.LevelSettings', WHERE WHAT IT READS IS OF BULK AT MOST 1048576: true; the input reads as it did. -/
def levelSettingsUptoRow : OpenClaim := { program := "ythodlkacfcnhnaa", sum := "eaaeda440cbf78f79348cb0dd0d8fc61dc6b925475dee451bfbf0297007591a1", func := "debenture/debenturelaw15.LevelSettings", spec := "levelSettings", inPlace := ["math/bits.Add64"], unfollowed := true, recurses := true, apart := false, narrowed := true }
def LevelSettingsUptoSaid : Prop := levelSettingsUptoRow.holds Try.pinned (OpenSpec.upto levelSettingsSpec)

/-- 'debenturelaw15.LevelFinds', WHERE WHAT IT READS IS OF BULK AT MOST 1048576: true; the input reads as it did. -/
def levelFindsUptoRow : OpenClaim := { program := "ythodlkacfcnhnaa", sum := "eaaeda440cbf78f79348cb0dd0d8fc61dc6b925475dee451bfbf0297007591a1", func := "debenture/debenturelaw15.LevelFinds", spec := "levelFinds", inPlace := ["math/bits.Add64"], unfollowed := true, recurses := true, apart := false, narrowed := true }
def LevelFindsUptoSaid : Prop := levelFindsUptoRow.holds Try.pinned (OpenSpec.upto levelFindsSpec)

/-- 'debenturelaw15.LevelTakes', WHERE WHAT IT READS IS OF BULK AT MOST 1048576: true; the input reads as it did. -/
def levelTakesUptoRow : OpenClaim := { program := "ythodlkacfcnhnaa", sum := "eaaeda440cbf78f79348cb0dd0d8fc61dc6b925475dee451bfbf0297007591a1", func := "debenture/debenturelaw15.LevelTakes", spec := "levelTakes", inPlace := ["math/bits.Add64"], unfollowed := true, recurses := true, apart := false, narrowed := true }
def LevelTakesUptoSaid : Prop := levelTakesUptoRow.holds Try.pinned (OpenSpec.upto levelTakesSpec)

/-- 'debenturelaw15.LevelPicks', WHERE WHAT IT READS IS OF BULK AT MOST 1048576: true; the input reads as it did. -/
def levelPicksUptoRow : OpenClaim := { program := "ythodlkacfcnhnaa", sum := "eaaeda440cbf78f79348cb0dd0d8fc61dc6b925475dee451bfbf0297007591a1", func := "debenture/debenturelaw15.LevelPicks", spec := "levelPicks", inPlace := ["math/bits.Add64"], unfollowed := true, recurses := true, apart := false, narrowed := true }
def LevelPicksUptoSaid : Prop := levelPicksUptoRow.holds Try.pinned (OpenSpec.upto levelPicksSpec)

/-- 'debenturelaw15.LevelRests', WHERE WHAT IT READS IS OF BULK AT MOST 1048576: true; the input reads as it did. -/
def levelRestsUptoRow : OpenClaim := { program := "ythodlkacfcnhnaa", sum := "eaaeda440cbf78f79348cb0dd0d8fc61dc6b925475dee451bfbf0297007591a1", func := "debenture/debenturelaw15.LevelRests", spec := "levelRests", inPlace := ["math/bits.Add64"], unfollowed := true, recurses := true, apart := false, narrowed := true }
def LevelRestsUptoSaid : Prop := levelRestsUptoRow.holds Try.pinned (OpenSpec.upto levelRestsSpec)

end Rows
end Go.Proofs.Ythodlkacfcnhnaa
