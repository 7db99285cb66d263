/-
  NARROWER THAN 'FOR EVERY INPUT', by the rows' own cells (each row's printed sentence says how): CrcSums: laid · CrcFrames: laid · CrcOpens: laid · CrcTurned: laid · CrcPatterns: laid · CrcPieces: laid · CrcBack: laid · BloomPlaces: laid · BloomMakes: laid · BloomHas: laid · BloomKeeps: laid.
  DERIVED. THE GIVEN ROWS OF THIS SEAT. 11 by the template 'for every input the law returns true; each argument reads behind the call as it read before'; 0 by the template 'total and deterministic' (their statements: YtblelfonnelglaaDoorTotals.lean).
  GIVEN WITH THE SEED: the statements are not yours to turn. If you find one false, say at which input.
  Laid BY PROGRAM, IN A SANDBOX (cutbox-rows.mjs): the forced cells as the released guide's own fill.sh prints them over the translation 3528726641ebda5b… (all of the seat's roots in one cut). By AI agents, Wed Nov 11 2026. No macro, syntax, notation, axiom, sorry.
-/
import Derived.Test.YtblelfonnelglaaDoorChecked
import GoSem.Claim
import GoSem.ClaimJoined
import GoSem.ClaimMapViews
import Derived.JoinedTies
import Derived.KernelRfl
namespace Go.Proofs.YtblelfonnelglaaDoor
/- THE CELL 'sum', in the pinned program and in every row, IS THE sha256 OF THE DUMP (.gsa) THAT YtblelfonnelglaaDoorProg.lean LOADS. Nothing in Lean hashes anything: it is a label: what it is worth is what the hold of that sum in a sandbox is worth. -/
noncomputable def Tryd.pinned : Pinned := { name := "ytblelfonnelglaadoor", sum := "3528726641ebda5b98e4b3db7ec35155dba3b06bce8204245de6847d288b132c", checked := Tryd.checked }
namespace Rows
def none {H : Type} : Left H := { results := [], args := [] }

/- WHAT THE LISTED PACKAGE-LEVEL VARIABLES READ AS WHEN THE CALL BEGINS. Each datum BY PROGRAM (the guide's laid-datum.mjs) off the statement by which the dump's own 'gosem.cut.vars' lays the variable. In a bare row this is a premise. The card (YtblelfonnelglaaDoorCards.lean) ties it to the program's text. -/
def laid_debenture_crc_shifted {H : Type} : DataW H := .agg [.agg [.lit (.int .u32 0), .lit (.int .u32 3712330424), .lit (.int .u32 3211207553), .lit (.int .u32 1646430521), .lit (.int .u32 2065838579), .lit (.int .u32 2791807819), .lit (.int .u32 3292861042), .lit (.int .u32 419477706), .lit (.int .u32 4131677158), .lit (.int .u32 721537374), .lit (.int .u32 1227047015), .lit (.int .u32 2489772767), .lit (.int .u32 2372293141), .lit (.int .u32 1344534701), .lit (.int .u32 838955412), .lit (.int .u32 4014267180)], .agg [.lit (.int .u32 0), .lit (.int .u32 3915690301), .lit (.int .u32 3609531531), .lit (.int .u32 1044489654), .lit (.int .u32 2879807463), .lit (.int .u32 1120071386), .lit (.int .u32 2088979308), .lit (.int .u32 2515008081), .lit (.int .u32 1386268991), .lit (.int .u32 3150215170), .lit (.int .u32 2240142772), .lit (.int .u32 1826712713), .lit (.int .u32 4177958616), .lit (.int .u32 274868197), .lit (.int .u32 774079059), .lit (.int .u32 3343332206)], .agg [.lit (.int .u32 0), .lit (.int .u32 2772537982), .lit (.int .u32 1332695565), .lit (.int .u32 3928932467), .lit (.int .u32 2665391130), .lit (.int .u32 1000289892), .lit (.int .u32 3518101015), .lit (.int .u32 1961911401), .lit (.int .u32 944848581), .lit (.int .u32 2635115707), .lit (.int .u32 2000579784), .lit (.int .u32 3531603638), .lit (.int .u32 2794429151), .lit (.int .u32 63834273), .lit (.int .u32 3923822802), .lit (.int .u32 1285642924)], .agg [.lit (.int .u32 0), .lit (.int .u32 1889697162), .lit (.int .u32 3779394324), .lit (.int .u32 2447804062), .lit (.int .u32 3345318105), .lit (.int .u32 3083337043), .lit (.int .u32 639728589), .lit (.int .u32 1451427399), .lit (.int .u32 2334619459), .lit (.int .u32 4219800265), .lit (.int .u32 1784908887), .lit (.int .u32 448917981), .lit (.int .u32 1279457178), .lit (.int .u32 1021348368), .lit (.int .u32 2902854798), .lit (.int .u32 3718541572)], .agg [.lit (.int .u32 0), .lit (.int .u32 329422967), .lit (.int .u32 658845934), .lit (.int .u32 887597209), .lit (.int .u32 1317691868), .lit (.int .u32 1562966443), .lit (.int .u32 1775194418), .lit (.int .u32 2054015301), .lit (.int .u32 2635383736), .lit (.int .u32 2394315727), .lit (.int .u32 3125932886), .lit (.int .u32 2851302177), .lit (.int .u32 3550388836), .lit (.int .u32 3225172499), .lit (.int .u32 4108030602), .lit (.int .u32 3883469565)], .agg [.lit (.int .u32 0), .lit (.int .u32 1069937025), .lit (.int .u32 2139874050), .lit (.int .u32 1078858371), .lit (.int .u32 4279748100), .lit (.int .u32 3235002245), .lit (.int .u32 2157716742), .lit (.int .u32 3210335367), .lit (.int .u32 4223924985), .lit (.int .u32 3288730488), .lit (.int .u32 2219317755), .lit (.int .u32 3146639482), .lit (.int .u32 81018109), .lit (.int .u32 991022460), .lit (.int .u32 2069880831), .lit (.int .u32 1150955134)], .agg [.lit (.int .u32 0), .lit (.int .u32 4067132163), .lit (.int .u32 3778769143), .lit (.int .u32 324072436), .lit (.int .u32 3348797215), .lit (.int .u32 904991772), .lit (.int .u32 648144872), .lit (.int .u32 3570033899), .lit (.int .u32 2329499855), .lit (.int .u32 2024987596), .lit (.int .u32 1809983544), .lit (.int .u32 2575936315), .lit (.int .u32 1296289744), .lit (.int .u32 3207089363), .lit (.int .u32 2893594407), .lit (.int .u32 1578318884)], .agg [.lit (.int .u32 0), .lit (.int .u32 274646895), .lit (.int .u32 549293790), .lit (.int .u32 820201905), .lit (.int .u32 1098587580), .lit (.int .u32 1361435347), .lit (.int .u32 1640403810), .lit (.int .u32 1905808397), .lit (.int .u32 2197175160), .lit (.int .u32 2460548119), .lit (.int .u32 2722870694), .lit (.int .u32 2987750089), .lit (.int .u32 3280807620), .lit (.int .u32 3553878443), .lit (.int .u32 3811616794), .lit (.int .u32 4084100981)]]

/-- 'debenturelaw04.CrcSums': WHATEVER THE INPUT: true; the input reads as it did. -/
def crcSumsSpec : ChangeSpec := { name := "crcSums", fn := fun _ => fun
  | [d1, d2] => { results := [.lit (.bool true)], args := [d1, d2] }
  | _ => none }
def crcSumsRow : OpenClaim := { program := "ytblelfonnelglaadoor", sum := "3528726641ebda5b98e4b3db7ec35155dba3b06bce8204245de6847d288b132c", func := "debenture/debenturelaw04.CrcSums", spec := "crcSums", named := ["debenture/crc.shifted"], apart := false, laid := [("debenture/crc.shifted", laid_debenture_crc_shifted)] }
def CrcSumsSaid : Prop := crcSumsRow.holds Tryd.pinned (OpenSpec.ofChange crcSumsSpec)

/-- ITS FALSE NEIGHBOUR: 'it returns false'. Refute it at one input. -/
def crcSumsWrong : ChangeSpec := { name := "crcSums", fn := fun _ => fun
  | [d1, d2] => { results := [.lit (.bool false)], args := [d1, d2] }
  | _ => none }
def CrcSumsWrongFalsely : Prop := crcSumsRow.holds Tryd.pinned (OpenSpec.ofChange crcSumsWrong)

/-- 'debenturelaw04.CrcFrames': WHATEVER THE INPUT: true; the input reads as it did. -/
def crcFramesSpec : ChangeSpec := { name := "crcFrames", fn := fun _ => fun
  | [d] => { results := [.lit (.bool true)], args := [d] }
  | _ => none }
def crcFramesRow : OpenClaim := { program := "ytblelfonnelglaadoor", sum := "3528726641ebda5b98e4b3db7ec35155dba3b06bce8204245de6847d288b132c", func := "debenture/debenturelaw04.CrcFrames", spec := "crcFrames", named := ["debenture/crc.shifted"], apart := false, laid := [("debenture/crc.shifted", laid_debenture_crc_shifted)] }
def CrcFramesSaid : Prop := crcFramesRow.holds Tryd.pinned (OpenSpec.ofChange crcFramesSpec)

/-- ITS FALSE NEIGHBOUR: 'it returns false'. Refute it at one input. -/
def crcFramesWrong : ChangeSpec := { name := "crcFrames", fn := fun _ => fun
  | [d] => { results := [.lit (.bool false)], args := [d] }
  | _ => none }
def CrcFramesWrongFalsely : Prop := crcFramesRow.holds Tryd.pinned (OpenSpec.ofChange crcFramesWrong)

/-- 'debenturelaw04.CrcOpens': WHATEVER THE INPUT: true; the input reads as it did. -/
def crcOpensSpec : ChangeSpec := { name := "crcOpens", fn := fun _ => fun
  | [d] => { results := [.lit (.bool true)], args := [d] }
  | _ => none }
def crcOpensRow : OpenClaim := { program := "ytblelfonnelglaadoor", sum := "3528726641ebda5b98e4b3db7ec35155dba3b06bce8204245de6847d288b132c", func := "debenture/debenturelaw04.CrcOpens", spec := "crcOpens", named := ["debenture/crc.shifted"], apart := false, laid := [("debenture/crc.shifted", laid_debenture_crc_shifted)] }
def CrcOpensSaid : Prop := crcOpensRow.holds Tryd.pinned (OpenSpec.ofChange crcOpensSpec)

/-- ITS FALSE NEIGHBOUR: 'it returns false'. Refute it at one input. -/
def crcOpensWrong : ChangeSpec := { name := "crcOpens", fn := fun _ => fun
  | [d] => { results := [.lit (.bool false)], args := [d] }
  | _ => none }
def CrcOpensWrongFalsely : Prop := crcOpensRow.holds Tryd.pinned (OpenSpec.ofChange crcOpensWrong)

/-- 'debenturelaw04.CrcTurned': WHATEVER THE INPUT: true; the input reads as it did. -/
def crcTurnedSpec : ChangeSpec := { name := "crcTurned", fn := fun _ => fun
  | [d1, d2, d3] => { results := [.lit (.bool true)], args := [d1, d2, d3] }
  | _ => none }
def crcTurnedRow : OpenClaim := { program := "ytblelfonnelglaadoor", sum := "3528726641ebda5b98e4b3db7ec35155dba3b06bce8204245de6847d288b132c", func := "debenture/debenturelaw04.CrcTurned", spec := "crcTurned", named := ["debenture/crc.shifted"], apart := false, laid := [("debenture/crc.shifted", laid_debenture_crc_shifted)] }
def CrcTurnedSaid : Prop := crcTurnedRow.holds Tryd.pinned (OpenSpec.ofChange crcTurnedSpec)

/-- ITS FALSE NEIGHBOUR: 'it returns false'. Refute it at one input. -/
def crcTurnedWrong : ChangeSpec := { name := "crcTurned", fn := fun _ => fun
  | [d1, d2, d3] => { results := [.lit (.bool false)], args := [d1, d2, d3] }
  | _ => none }
def CrcTurnedWrongFalsely : Prop := crcTurnedRow.holds Tryd.pinned (OpenSpec.ofChange crcTurnedWrong)

/-- 'debenturelaw04.CrcPatterns': WHATEVER THE INPUT: true; the input reads as it did. -/
def crcPatternsSpec : ChangeSpec := { name := "crcPatterns", fn := fun _ => fun
  | [d1, d2, d3] => { results := [.lit (.bool true)], args := [d1, d2, d3] }
  | _ => none }
def crcPatternsRow : OpenClaim := { program := "ytblelfonnelglaadoor", sum := "3528726641ebda5b98e4b3db7ec35155dba3b06bce8204245de6847d288b132c", func := "debenture/debenturelaw04.CrcPatterns", spec := "crcPatterns", named := ["debenture/crc.shifted"], apart := false, laid := [("debenture/crc.shifted", laid_debenture_crc_shifted)] }
def CrcPatternsSaid : Prop := crcPatternsRow.holds Tryd.pinned (OpenSpec.ofChange crcPatternsSpec)

/-- ITS FALSE NEIGHBOUR: 'it returns false'. Refute it at one input. -/
def crcPatternsWrong : ChangeSpec := { name := "crcPatterns", fn := fun _ => fun
  | [d1, d2, d3] => { results := [.lit (.bool false)], args := [d1, d2, d3] }
  | _ => none }
def CrcPatternsWrongFalsely : Prop := crcPatternsRow.holds Tryd.pinned (OpenSpec.ofChange crcPatternsWrong)

/-- 'debenturelaw04.CrcPieces': WHATEVER THE INPUT: true; the input reads as it did. -/
def crcPiecesSpec : ChangeSpec := { name := "crcPieces", fn := fun _ => fun
  | [d1, d2, d3] => { results := [.lit (.bool true)], args := [d1, d2, d3] }
  | _ => none }
def crcPiecesRow : OpenClaim := { program := "ytblelfonnelglaadoor", sum := "3528726641ebda5b98e4b3db7ec35155dba3b06bce8204245de6847d288b132c", func := "debenture/debenturelaw04.CrcPieces", spec := "crcPieces", named := ["debenture/crc.shifted"], apart := false, laid := [("debenture/crc.shifted", laid_debenture_crc_shifted)] }
def CrcPiecesSaid : Prop := crcPiecesRow.holds Tryd.pinned (OpenSpec.ofChange crcPiecesSpec)

/-- ITS FALSE NEIGHBOUR: 'it returns false'. Refute it at one input. -/
def crcPiecesWrong : ChangeSpec := { name := "crcPieces", fn := fun _ => fun
  | [d1, d2, d3] => { results := [.lit (.bool false)], args := [d1, d2, d3] }
  | _ => none }
def CrcPiecesWrongFalsely : Prop := crcPiecesRow.holds Tryd.pinned (OpenSpec.ofChange crcPiecesWrong)

/-- 'debenturelaw04.CrcBack': WHATEVER THE INPUT: true; the input reads as it did. -/
def crcBackSpec : ChangeSpec := { name := "crcBack", fn := fun _ => fun
  | [d1, d2] => { results := [.lit (.bool true)], args := [d1, d2] }
  | _ => none }
def crcBackRow : OpenClaim := { program := "ytblelfonnelglaadoor", sum := "3528726641ebda5b98e4b3db7ec35155dba3b06bce8204245de6847d288b132c", func := "debenture/debenturelaw04.CrcBack", spec := "crcBack", named := ["debenture/crc.shifted"], apart := false, laid := [("debenture/crc.shifted", laid_debenture_crc_shifted)] }
def CrcBackSaid : Prop := crcBackRow.holds Tryd.pinned (OpenSpec.ofChange crcBackSpec)

/-- ITS FALSE NEIGHBOUR: 'it returns false'. Refute it at one input. -/
def crcBackWrong : ChangeSpec := { name := "crcBack", fn := fun _ => fun
  | [d1, d2] => { results := [.lit (.bool false)], args := [d1, d2] }
  | _ => none }
def CrcBackWrongFalsely : Prop := crcBackRow.holds Tryd.pinned (OpenSpec.ofChange crcBackWrong)

/-- 'debenturelaw08.BloomPlaces': WHATEVER THE INPUT: true; the input reads as it did. -/
def bloomPlacesSpec : ChangeSpec := { name := "bloomPlaces", fn := fun _ => fun
  | [d1, d2, d3] => { results := [.lit (.bool true)], args := [d1, d2, d3] }
  | _ => none }
def bloomPlacesRow : OpenClaim := { program := "ytblelfonnelglaadoor", sum := "3528726641ebda5b98e4b3db7ec35155dba3b06bce8204245de6847d288b132c", func := "debenture/debenturelaw08.BloomPlaces", spec := "bloomPlaces", named := ["debenture/crc.shifted"], apart := false, laid := [("debenture/crc.shifted", laid_debenture_crc_shifted)] }
def BloomPlacesSaid : Prop := bloomPlacesRow.holds Tryd.pinned (OpenSpec.ofChange bloomPlacesSpec)

/-- ITS FALSE NEIGHBOUR: 'it returns false'. Refute it at one input. -/
def bloomPlacesWrong : ChangeSpec := { name := "bloomPlaces", fn := fun _ => fun
  | [d1, d2, d3] => { results := [.lit (.bool false)], args := [d1, d2, d3] }
  | _ => none }
def BloomPlacesWrongFalsely : Prop := bloomPlacesRow.holds Tryd.pinned (OpenSpec.ofChange bloomPlacesWrong)

/-- 'debenturelaw08.BloomMakes': WHATEVER THE INPUT: true; the input reads as it did. -/
def bloomMakesSpec : ChangeSpec := { name := "bloomMakes", fn := fun _ => fun
  | [d] => { results := [.lit (.bool true)], args := [d] }
  | _ => none }
def bloomMakesRow : OpenClaim := { program := "ytblelfonnelglaadoor", sum := "3528726641ebda5b98e4b3db7ec35155dba3b06bce8204245de6847d288b132c", func := "debenture/debenturelaw08.BloomMakes", spec := "bloomMakes", named := ["debenture/crc.shifted"], apart := false, laid := [("debenture/crc.shifted", laid_debenture_crc_shifted)] }
def BloomMakesSaid : Prop := bloomMakesRow.holds Tryd.pinned (OpenSpec.ofChange bloomMakesSpec)

/-- ITS FALSE NEIGHBOUR: 'it returns false'. Refute it at one input. -/
def bloomMakesWrong : ChangeSpec := { name := "bloomMakes", fn := fun _ => fun
  | [d] => { results := [.lit (.bool false)], args := [d] }
  | _ => none }
def BloomMakesWrongFalsely : Prop := bloomMakesRow.holds Tryd.pinned (OpenSpec.ofChange bloomMakesWrong)

/-- 'debenturelaw08.BloomHas': WHATEVER THE INPUT: true; the input reads as it did. -/
def bloomHasSpec : ChangeSpec := { name := "bloomHas", fn := fun _ => fun
  | [d1, d2] => { results := [.lit (.bool true)], args := [d1, d2] }
  | _ => none }
def bloomHasRow : OpenClaim := { program := "ytblelfonnelglaadoor", sum := "3528726641ebda5b98e4b3db7ec35155dba3b06bce8204245de6847d288b132c", func := "debenture/debenturelaw08.BloomHas", spec := "bloomHas", named := ["debenture/crc.shifted"], apart := false, laid := [("debenture/crc.shifted", laid_debenture_crc_shifted)] }
def BloomHasSaid : Prop := bloomHasRow.holds Tryd.pinned (OpenSpec.ofChange bloomHasSpec)

/-- ITS FALSE NEIGHBOUR: 'it returns false'. Refute it at one input. -/
def bloomHasWrong : ChangeSpec := { name := "bloomHas", fn := fun _ => fun
  | [d1, d2] => { results := [.lit (.bool false)], args := [d1, d2] }
  | _ => none }
def BloomHasWrongFalsely : Prop := bloomHasRow.holds Tryd.pinned (OpenSpec.ofChange bloomHasWrong)

/-- 'debenturelaw08.BloomKeeps': WHATEVER THE INPUT: true; the input reads as it did. -/
def bloomKeepsSpec : ChangeSpec := { name := "bloomKeeps", fn := fun _ => fun
  | [d1, d2] => { results := [.lit (.bool true)], args := [d1, d2] }
  | _ => none }
def bloomKeepsRow : OpenClaim := { program := "ytblelfonnelglaadoor", sum := "3528726641ebda5b98e4b3db7ec35155dba3b06bce8204245de6847d288b132c", func := "debenture/debenturelaw08.BloomKeeps", spec := "bloomKeeps", named := ["debenture/crc.shifted"], apart := false, laid := [("debenture/crc.shifted", laid_debenture_crc_shifted)] }
def BloomKeepsSaid : Prop := bloomKeepsRow.holds Tryd.pinned (OpenSpec.ofChange bloomKeepsSpec)

/-- ITS FALSE NEIGHBOUR: 'it returns false'. Refute it at one input. -/
def bloomKeepsWrong : ChangeSpec := { name := "bloomKeeps", fn := fun _ => fun
  | [d1, d2] => { results := [.lit (.bool false)], args := [d1, d2] }
  | _ => none }
def BloomKeepsWrongFalsely : Prop := bloomKeepsRow.holds Tryd.pinned (OpenSpec.ofChange bloomKeepsWrong)

/- THE SECOND FORM. 'bulk': how many values and letters a reading holds, each counted each time it is reached (what is shared counts as often as it is met; a slice's spare places count too). A statement '..UptoSaid' is the law's where the arguments, and the package variables that the reading takes, are together of bulk at most 1048576: NARROWER than '..Said'. Prove '..Said' where nothing that the law and all that it calls make is longer than what came in: it says more and counts as full. Else prove '..UptoSaid'. A law counts once. -/
mutual
def uptoBulk {H : Type} : DataW H → Nat
  | .lit (.string bytes) => bytes.length + 1
  | .lit _ => 1
  | .nil => 1
  | .ptr d => uptoBulk d + 1
  | .slice elems spare => uptoBulkAll elems + uptoBulkAll spare + 1
  | .agg parts => uptoBulkAll parts + 1
  | .iface _ d => uptoBulk d + 1
  | .map entries => uptoBulkEntries entries + 1
  | .held _ => 1
def uptoBulkAll {H : Type} : List (DataW H) → Nat
  | [] => 0
  | d :: r => uptoBulk d + uptoBulkAll r
def uptoBulkEntries {H : Type} : List (Lit × DataW H) → Nat
  | [] => 0
  | x :: r => uptoBulkEntry x + uptoBulkEntries r
def uptoBulkEntry {H : Type} : Lit × DataW H → Nat
  | (.string bytes, d) => bytes.length + uptoBulk d + 1
  | (_, d) => uptoBulk d + 1
 end
def uptoSmall : (H : Type) → List (DataW H) → Bool := fun _ ds => decide (uptoBulkAll ds ≤ 1048576)
def OpenSpec.upto (s : _root_.Go.ChangeSpec) : _root_.Go.OpenSpec := { _root_.Go.OpenSpec.ofChange s with cond := some uptoSmall }

/-- 'debenturelaw04.CrcSums', WHERE WHAT IT READS IS OF BULK AT MOST 1048576: true; the input reads as it did. -/
def crcSumsUptoRow : OpenClaim := { program := "ytblelfonnelglaadoor", sum := "3528726641ebda5b98e4b3db7ec35155dba3b06bce8204245de6847d288b132c", func := "debenture/debenturelaw04.CrcSums", spec := "crcSums", named := ["debenture/crc.shifted"], apart := false, laid := [("debenture/crc.shifted", laid_debenture_crc_shifted)], narrowed := true }
def CrcSumsUptoSaid : Prop := crcSumsUptoRow.holds Tryd.pinned (OpenSpec.upto crcSumsSpec)

/-- 'debenturelaw04.CrcFrames', WHERE WHAT IT READS IS OF BULK AT MOST 1048576: true; the input reads as it did. -/
def crcFramesUptoRow : OpenClaim := { program := "ytblelfonnelglaadoor", sum := "3528726641ebda5b98e4b3db7ec35155dba3b06bce8204245de6847d288b132c", func := "debenture/debenturelaw04.CrcFrames", spec := "crcFrames", named := ["debenture/crc.shifted"], apart := false, laid := [("debenture/crc.shifted", laid_debenture_crc_shifted)], narrowed := true }
def CrcFramesUptoSaid : Prop := crcFramesUptoRow.holds Tryd.pinned (OpenSpec.upto crcFramesSpec)

/-- 'debenturelaw04.CrcOpens', WHERE WHAT IT READS IS OF BULK AT MOST 1048576: true; the input reads as it did. -/
def crcOpensUptoRow : OpenClaim := { program := "ytblelfonnelglaadoor", sum := "3528726641ebda5b98e4b3db7ec35155dba3b06bce8204245de6847d288b132c", func := "debenture/debenturelaw04.CrcOpens", spec := "crcOpens", named := ["debenture/crc.shifted"], apart := false, laid := [("debenture/crc.shifted", laid_debenture_crc_shifted)], narrowed := true }
def CrcOpensUptoSaid : Prop := crcOpensUptoRow.holds Tryd.pinned (OpenSpec.upto crcOpensSpec)

/-- 'debenturelaw04.CrcTurned', WHERE WHAT IT READS IS OF BULK AT MOST 1048576: true; the input reads as it did. -/
def crcTurnedUptoRow : OpenClaim := { program := "ytblelfonnelglaadoor", sum := "3528726641ebda5b98e4b3db7ec35155dba3b06bce8204245de6847d288b132c", func := "debenture/debenturelaw04.CrcTurned", spec := "crcTurned", named := ["debenture/crc.shifted"], apart := false, laid := [("debenture/crc.shifted", laid_debenture_crc_shifted)], narrowed := true }
def CrcTurnedUptoSaid : Prop := crcTurnedUptoRow.holds Tryd.pinned (OpenSpec.upto crcTurnedSpec)

/-- 'debenturelaw04.CrcPatterns', WHERE WHAT IT READS IS OF BULK AT MOST 1048576: true; the input reads as it did. -/
def crcPatternsUptoRow : OpenClaim := { program := "ytblelfonnelglaadoor", sum := "3528726641ebda5b98e4b3db7ec35155dba3b06bce8204245de6847d288b132c", func := "debenture/debenturelaw04.CrcPatterns", spec := "crcPatterns", named := ["debenture/crc.shifted"], apart := false, laid := [("debenture/crc.shifted", laid_debenture_crc_shifted)], narrowed := true }
def CrcPatternsUptoSaid : Prop := crcPatternsUptoRow.holds Tryd.pinned (OpenSpec.upto crcPatternsSpec)

/-- 'debenturelaw04.CrcPieces', WHERE WHAT IT READS IS OF BULK AT MOST 1048576: true; the input reads as it did. -/
def crcPiecesUptoRow : OpenClaim := { program := "ytblelfonnelglaadoor", sum := "3528726641ebda5b98e4b3db7ec35155dba3b06bce8204245de6847d288b132c", func := "debenture/debenturelaw04.CrcPieces", spec := "crcPieces", named := ["debenture/crc.shifted"], apart := false, laid := [("debenture/crc.shifted", laid_debenture_crc_shifted)], narrowed := true }
def CrcPiecesUptoSaid : Prop := crcPiecesUptoRow.holds Tryd.pinned (OpenSpec.upto crcPiecesSpec)

/-- 'debenturelaw04.CrcBack', WHERE WHAT IT READS IS OF BULK AT MOST 1048576: true; the input reads as it did. -/
def crcBackUptoRow : OpenClaim := { program := "ytblelfonnelglaadoor", sum := "3528726641ebda5b98e4b3db7ec35155dba3b06bce8204245de6847d288b132c", func := "debenture/debenturelaw04.CrcBack", spec := "crcBack", named := ["debenture/crc.shifted"], apart := false, laid := [("debenture/crc.shifted", laid_debenture_crc_shifted)], narrowed := true }
def CrcBackUptoSaid : Prop := crcBackUptoRow.holds Tryd.pinned (OpenSpec.upto crcBackSpec)

/-- 'debenturelaw08.BloomPlaces', WHERE WHAT IT READS IS OF BULK AT MOST 1048576: true; the input reads as it did. -/
def bloomPlacesUptoRow : OpenClaim := { program := "ytblelfonnelglaadoor", sum := "3528726641ebda5b98e4b3db7ec35155dba3b06bce8204245de6847d288b132c", func := "debenture/debenturelaw08.BloomPlaces", spec := "bloomPlaces", named := ["debenture/crc.shifted"], apart := false, laid := [("debenture/crc.shifted", laid_debenture_crc_shifted)], narrowed := true }
def BloomPlacesUptoSaid : Prop := bloomPlacesUptoRow.holds Tryd.pinned (OpenSpec.upto bloomPlacesSpec)

/-- 'debenturelaw08.BloomMakes', WHERE WHAT IT READS IS OF BULK AT MOST 1048576: true; the input reads as it did. -/
def bloomMakesUptoRow : OpenClaim := { program := "ytblelfonnelglaadoor", sum := "3528726641ebda5b98e4b3db7ec35155dba3b06bce8204245de6847d288b132c", func := "debenture/debenturelaw08.BloomMakes", spec := "bloomMakes", named := ["debenture/crc.shifted"], apart := false, laid := [("debenture/crc.shifted", laid_debenture_crc_shifted)], narrowed := true }
def BloomMakesUptoSaid : Prop := bloomMakesUptoRow.holds Tryd.pinned (OpenSpec.upto bloomMakesSpec)

/-- 'debenturelaw08.BloomHas', WHERE WHAT IT READS IS OF BULK AT MOST 1048576: true; the input reads as it did. -/
def bloomHasUptoRow : OpenClaim := { program := "ytblelfonnelglaadoor", sum := "3528726641ebda5b98e4b3db7ec35155dba3b06bce8204245de6847d288b132c", func := "debenture/debenturelaw08.BloomHas", spec := "bloomHas", named := ["debenture/crc.shifted"], apart := false, laid := [("debenture/crc.shifted", laid_debenture_crc_shifted)], narrowed := true }
def BloomHasUptoSaid : Prop := bloomHasUptoRow.holds Tryd.pinned (OpenSpec.upto bloomHasSpec)

/-- 'debenturelaw08.BloomKeeps', WHERE WHAT IT READS IS OF BULK AT MOST 1048576: true; the input reads as it did. -/
def bloomKeepsUptoRow : OpenClaim := { program := "ytblelfonnelglaadoor", sum := "3528726641ebda5b98e4b3db7ec35155dba3b06bce8204245de6847d288b132c", func := "debenture/debenturelaw08.BloomKeeps", spec := "bloomKeeps", named := ["debenture/crc.shifted"], apart := false, laid := [("debenture/crc.shifted", laid_debenture_crc_shifted)], narrowed := true }
def BloomKeepsUptoSaid : Prop := bloomKeepsUptoRow.holds Tryd.pinned (OpenSpec.upto bloomKeepsSpec)

end Rows
end Go.Proofs.YtblelfonnelglaaDoor
