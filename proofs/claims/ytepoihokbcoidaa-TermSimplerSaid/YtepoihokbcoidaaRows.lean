/-
  No cell of these rows narrows 'for every input' (looked for: loops, veiled, ifaces, maps, wideKeys, modest, calm, conditions, laid).
  DERIVED. THE GIVEN ROWS OF THIS SEAT. 3 by the template 'for every input the law returns true; each argument reads behind the call as it read before'; 0 by the template 'total and deterministic' (their statements: YtepoihokbcoidaaTotals.lean).
  GIVEN WITH THE SEED: the statements are not yours to turn. If you find one false, say at which input.
  Laid BY PROGRAM, IN A SANDBOX (cutbox-rows.mjs): the forced cells as the released guide's own fill.sh prints them over the translation be45f928622c42a6… (all of the seat's roots in one cut). By AI agents, Wed Nov 11 2026. No macro, syntax, notation, axiom, sorry.
-/
import Derived.Test.YtepoihokbcoidaaChecked
import GoSem.Claim
import GoSem.ClaimJoined
import GoSem.ClaimMapViews
import Derived.JoinedTies
import Derived.KernelRfl
namespace Go.Proofs.Ytepoihokbcoidaa
/- THE CELL 'sum', in the pinned program and in every row, IS THE sha256 OF THE DUMP (.gsa) THAT YtepoihokbcoidaaProg.lean LOADS. Nothing in Lean hashes anything: it is a label: what it is worth is what the hold of that sum in a sandbox is worth. -/
noncomputable def Try.pinned : Pinned := { name := "ytepoihokbcoidaa", sum := "be45f928622c42a69b03399acfd9c9b03f39cc848e5c5bd527e3ffd72e18ef2d", checked := Try.checked }
namespace Rows
def none {H : Type} : Left H := { results := [], args := [] }

/-- 'debenturelaw18.TermSimple': WHATEVER THE INPUT: true; the input reads as it did. -/
def termSimpleSpec : ChangeSpec := { name := "termSimple", fn := fun _ => fun
  | [d1, d2] => { results := [.lit (.bool true)], args := [d1, d2] }
  | _ => none }
def termSimpleRow : OpenClaim := { program := "ytepoihokbcoidaa", sum := "be45f928622c42a69b03399acfd9c9b03f39cc848e5c5bd527e3ffd72e18ef2d", func := "debenture/debenturelaw18.TermSimple", spec := "termSimple", unfollowed := true, recurses := true, apart := false }
def TermSimpleSaid : Prop := termSimpleRow.holds Try.pinned (OpenSpec.ofChange termSimpleSpec)

/-- ITS FALSE NEIGHBOUR: 'it returns false'. Refute it at one input. -/
def termSimpleWrong : ChangeSpec := { name := "termSimple", fn := fun _ => fun
  | [d1, d2] => { results := [.lit (.bool false)], args := [d1, d2] }
  | _ => none }
def TermSimpleWrongFalsely : Prop := termSimpleRow.holds Try.pinned (OpenSpec.ofChange termSimpleWrong)

/-- 'debenturelaw18.TermSimpler': WHATEVER THE INPUT: true; the input reads as it did. -/
def termSimplerSpec : ChangeSpec := { name := "termSimpler", fn := fun _ => fun
  | [d1, d2] => { results := [.lit (.bool true)], args := [d1, d2] }
  | _ => none }
def termSimplerRow : OpenClaim := { program := "ytepoihokbcoidaa", sum := "be45f928622c42a69b03399acfd9c9b03f39cc848e5c5bd527e3ffd72e18ef2d", func := "debenture/debenturelaw18.TermSimpler", spec := "termSimpler", unfollowed := true, recurses := true, apart := false }
def TermSimplerSaid : Prop := termSimplerRow.holds Try.pinned (OpenSpec.ofChange termSimplerSpec)

/-- ITS FALSE NEIGHBOUR: 'it returns false'. Refute it at one input. -/
def termSimplerWrong : ChangeSpec := { name := "termSimpler", fn := fun _ => fun
  | [d1, d2] => { results := [.lit (.bool false)], args := [d1, d2] }
  | _ => none }
def TermSimplerWrongFalsely : Prop := termSimplerRow.holds Try.pinned (OpenSpec.ofChange termSimplerWrong)

/-- 'debenturelaw18.TermWords': WHATEVER THE INPUT: true; the input reads as it did. -/
def termWordsSpec : ChangeSpec := { name := "termWords", fn := fun _ => fun
  | [d] => { results := [.lit (.bool true)], args := [d] }
  | _ => none }
def termWordsRow : OpenClaim := { program := "ytepoihokbcoidaa", sum := "be45f928622c42a69b03399acfd9c9b03f39cc848e5c5bd527e3ffd72e18ef2d", func := "debenture/debenturelaw18.TermWords", spec := "termWords", unfollowed := true, recurses := true, apart := false }
def TermWordsSaid : Prop := termWordsRow.holds Try.pinned (OpenSpec.ofChange termWordsSpec)

/-- ITS FALSE NEIGHBOUR: 'it returns false'. Refute it at one input. -/
def termWordsWrong : ChangeSpec := { name := "termWords", fn := fun _ => fun
  | [d] => { results := [.lit (.bool false)], args := [d] }
  | _ => none }
def TermWordsWrongFalsely : Prop := termWordsRow.holds Try.pinned (OpenSpec.ofChange termWordsWrong)

/- THE SECOND FORM. 'bulk': how many values and letters a reading holds, each counted each time it is reached (what is shared counts as often as it is met; a slice's spare places count too). A statement '..UptoSaid' is the law's where the arguments, and the package variables that the reading takes, are together of bulk at most 1048576: NARROWER than '..Said'. Prove '..Said' where nothing that the law and all that it calls make is longer than what came in: it says more and counts as full. Else prove '..UptoSaid'. A law counts once. -/
mutual
def uptoBulk {H : Type} : DataW H → Nat
  | .lit (.string bytes) => bytes.length + 1
  | .lit _ => 1
  | .nil => 1
  | .ptr d => uptoBulk d + 1
  | .slice elems spare => uptoBulkAll elems + uptoBulkAll spare + 1
  | .agg parts => uptoBulkAll parts + 1
  | .iface _ d => uptoBulk d + 1
  | .map entries => uptoBulkEntries entries + 1
  | .held _ => 1
def uptoBulkAll {H : Type} : List (DataW H) → Nat
  | [] => 0
  | d :: r => uptoBulk d + uptoBulkAll r
def uptoBulkEntries {H : Type} : List (Lit × DataW H) → Nat
  | [] => 0
  | x :: r => uptoBulkEntry x + uptoBulkEntries r
def uptoBulkEntry {H : Type} : Lit × DataW H → Nat
  | (.string bytes, d) => bytes.length + uptoBulk d + 1
  | (_, d) => uptoBulk d + 1
 end
def uptoSmall : (H : Type) → List (DataW H) → Bool := fun _ ds => decide (uptoBulkAll ds ≤ 1048576)
def OpenSpec.upto (s : _root_.Go.ChangeSpec) : _root_.Go.OpenSpec := { _root_.Go.OpenSpec.ofChange s with cond := some uptoSmall }

/-- 'debenturelaw18.TermSimple', WHERE WHAT IT READS IS OF BULK AT MOST 1048576: true; the input reads as it did. -/
def termSimpleUptoRow : OpenClaim := { program := "ytepoihokbcoidaa", sum := "be45f928622c42a69b03399acfd9c9b03f39cc848e5c5bd527e3ffd72e18ef2d", func := "debenture/debenturelaw18.TermSimple", spec := "termSimple", unfollowed := true, recurses := true, apart := false, narrowed := true }
def TermSimpleUptoSaid : Prop := termSimpleUptoRow.holds Try.pinned (OpenSpec.upto termSimpleSpec)

/-- 'debenturelaw18.TermSimpler', WHERE WHAT IT READS IS OF BULK AT MOST 1048576: true; the input reads as it did. -/
def termSimplerUptoRow : OpenClaim := { program := "ytepoihokbcoidaa", sum := "be45f928622c42a69b03399acfd9c9b03f39cc848e5c5bd527e3ffd72e18ef2d", func := "debenture/debenturelaw18.TermSimpler", spec := "termSimpler", unfollowed := true, recurses := true, apart := false, narrowed := true }
def TermSimplerUptoSaid : Prop := termSimplerUptoRow.holds Try.pinned (OpenSpec.upto termSimplerSpec)

/-- 'debenturelaw18.TermWords', WHERE WHAT IT READS IS OF BULK AT MOST 1048576: true; the input reads as it did. -/
def termWordsUptoRow : OpenClaim := { program := "ytepoihokbcoidaa", sum := "be45f928622c42a69b03399acfd9c9b03f39cc848e5c5bd527e3ffd72e18ef2d", func := "debenture/debenturelaw18.TermWords", spec := "termWords", unfollowed := true, recurses := true, apart := false, narrowed := true }
def TermWordsUptoSaid : Prop := termWordsUptoRow.holds Try.pinned (OpenSpec.upto termWordsSpec)

end Rows
end Go.Proofs.Ytepoihokbcoidaa
