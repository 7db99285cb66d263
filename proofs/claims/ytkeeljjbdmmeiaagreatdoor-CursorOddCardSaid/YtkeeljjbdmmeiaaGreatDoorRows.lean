/-
  NARROWER THAN 'FOR EVERY INPUT', by the rows' own cells (each row's printed sentence says how): CursorKeys: laid · CursorMerges: laid · CursorViews: laid · CursorOdd: laid · CursorNone: laid.
  DERIVED. THE GIVEN ROWS OF THIS SEAT. 5 by the template 'for every input the law returns true; each argument reads behind the call as it read before'; 0 by the template 'total and deterministic' (their statements: YtkeeljjbdmmeiaaGreatDoorTotals.lean).
  GIVEN WITH THE SEED: the statements are not yours to turn. If you find one false, say at which input.
  Laid BY PROGRAM, IN A SANDBOX (cutbox-rows.mjs): the forced cells as the released guide's own fill.sh prints them over the translation fa21840c6ddd41bd… (all of the seat's roots in one cut). By AI agents, Wed Nov 11 2026. No macro, syntax, notation, axiom, sorry.
-/
import Derived.Test.YtkeeljjbdmmeiaaGreatDoorChecked
import GoSem.Claim
import GoSem.ClaimJoined
import GoSem.ClaimMapViews
import Derived.JoinedTies
import Derived.KernelRfl
namespace Go.Proofs.YtkeeljjbdmmeiaaGreatDoor
/- THE CELL 'sum', in the pinned program and in every row, IS THE sha256 OF THE DUMP (.gsa) THAT YtkeeljjbdmmeiaaGreatDoorProg.lean LOADS. Nothing in Lean hashes anything: it is a label: what it is worth is what the hold of that sum in a sandbox is worth. -/
noncomputable def Tryz.pinned : Pinned := { name := "ytkeeljjbdmmeiaagreatdoor", sum := "fa21840c6ddd41bd10be1c0d9959e895b699f29126e5b1556dc2abe22f9d2500", checked := Tryz.checked }
namespace Rows
def none {H : Type} : Left H := { results := [], args := [] }

/- WHAT THE LISTED PACKAGE-LEVEL VARIABLES READ AS WHEN THE CALL BEGINS. Each datum BY PROGRAM (the guide's laid-datum.mjs) off the statement by which the dump's own 'gosem.cut.vars' lays the variable. In a bare row this is a premise. The card (YtkeeljjbdmmeiaaGreatDoorCards.lean) ties it to the program's text. -/
def laid_debenture_crc_shifted {H : Type} : DataW H := .agg [.agg [.lit (.int .u32 0), .lit (.int .u32 3712330424), .lit (.int .u32 3211207553), .lit (.int .u32 1646430521), .lit (.int .u32 2065838579), .lit (.int .u32 2791807819), .lit (.int .u32 3292861042), .lit (.int .u32 419477706), .lit (.int .u32 4131677158), .lit (.int .u32 721537374), .lit (.int .u32 1227047015), .lit (.int .u32 2489772767), .lit (.int .u32 2372293141), .lit (.int .u32 1344534701), .lit (.int .u32 838955412), .lit (.int .u32 4014267180)], .agg [.lit (.int .u32 0), .lit (.int .u32 3915690301), .lit (.int .u32 3609531531), .lit (.int .u32 1044489654), .lit (.int .u32 2879807463), .lit (.int .u32 1120071386), .lit (.int .u32 2088979308), .lit (.int .u32 2515008081), .lit (.int .u32 1386268991), .lit (.int .u32 3150215170), .lit (.int .u32 2240142772), .lit (.int .u32 1826712713), .lit (.int .u32 4177958616), .lit (.int .u32 274868197), .lit (.int .u32 774079059), .lit (.int .u32 3343332206)], .agg [.lit (.int .u32 0), .lit (.int .u32 2772537982), .lit (.int .u32 1332695565), .lit (.int .u32 3928932467), .lit (.int .u32 2665391130), .lit (.int .u32 1000289892), .lit (.int .u32 3518101015), .lit (.int .u32 1961911401), .lit (.int .u32 944848581), .lit (.int .u32 2635115707), .lit (.int .u32 2000579784), .lit (.int .u32 3531603638), .lit (.int .u32 2794429151), .lit (.int .u32 63834273), .lit (.int .u32 3923822802), .lit (.int .u32 1285642924)], .agg [.lit (.int .u32 0), .lit (.int .u32 1889697162), .lit (.int .u32 3779394324), .lit (.int .u32 2447804062), .lit (.int .u32 3345318105), .lit (.int .u32 3083337043), .lit (.int .u32 639728589), .lit (.int .u32 1451427399), .lit (.int .u32 2334619459), .lit (.int .u32 4219800265), .lit (.int .u32 1784908887), .lit (.int .u32 448917981), .lit (.int .u32 1279457178), .lit (.int .u32 1021348368), .lit (.int .u32 2902854798), .lit (.int .u32 3718541572)], .agg [.lit (.int .u32 0), .lit (.int .u32 329422967), .lit (.int .u32 658845934), .lit (.int .u32 887597209), .lit (.int .u32 1317691868), .lit (.int .u32 1562966443), .lit (.int .u32 1775194418), .lit (.int .u32 2054015301), .lit (.int .u32 2635383736), .lit (.int .u32 2394315727), .lit (.int .u32 3125932886), .lit (.int .u32 2851302177), .lit (.int .u32 3550388836), .lit (.int .u32 3225172499), .lit (.int .u32 4108030602), .lit (.int .u32 3883469565)], .agg [.lit (.int .u32 0), .lit (.int .u32 1069937025), .lit (.int .u32 2139874050), .lit (.int .u32 1078858371), .lit (.int .u32 4279748100), .lit (.int .u32 3235002245), .lit (.int .u32 2157716742), .lit (.int .u32 3210335367), .lit (.int .u32 4223924985), .lit (.int .u32 3288730488), .lit (.int .u32 2219317755), .lit (.int .u32 3146639482), .lit (.int .u32 81018109), .lit (.int .u32 991022460), .lit (.int .u32 2069880831), .lit (.int .u32 1150955134)], .agg [.lit (.int .u32 0), .lit (.int .u32 4067132163), .lit (.int .u32 3778769143), .lit (.int .u32 324072436), .lit (.int .u32 3348797215), .lit (.int .u32 904991772), .lit (.int .u32 648144872), .lit (.int .u32 3570033899), .lit (.int .u32 2329499855), .lit (.int .u32 2024987596), .lit (.int .u32 1809983544), .lit (.int .u32 2575936315), .lit (.int .u32 1296289744), .lit (.int .u32 3207089363), .lit (.int .u32 2893594407), .lit (.int .u32 1578318884)], .agg [.lit (.int .u32 0), .lit (.int .u32 274646895), .lit (.int .u32 549293790), .lit (.int .u32 820201905), .lit (.int .u32 1098587580), .lit (.int .u32 1361435347), .lit (.int .u32 1640403810), .lit (.int .u32 1905808397), .lit (.int .u32 2197175160), .lit (.int .u32 2460548119), .lit (.int .u32 2722870694), .lit (.int .u32 2987750089), .lit (.int .u32 3280807620), .lit (.int .u32 3553878443), .lit (.int .u32 3811616794), .lit (.int .u32 4084100981)]]

/-- 'debenturelaw14.CursorKeys': WHATEVER THE INPUT: true; the input reads as it did. -/
def cursorKeysSpec : ChangeSpec := { name := "cursorKeys", fn := fun _ => fun
  | [d1, d2, d3] => { results := [.lit (.bool true)], args := [d1, d2, d3] }
  | _ => none }
def cursorKeysRow : OpenClaim := { program := "ytkeeljjbdmmeiaagreatdoor", sum := "fa21840c6ddd41bd10be1c0d9959e895b699f29126e5b1556dc2abe22f9d2500", func := "debenture/debenturelaw14.CursorKeys", spec := "cursorKeys", inPlace := ["internal/bytealg.IndexByteString"], unfollowed := true, recurses := true, named := ["debenture/crc.shifted"], plainKeys := false, apart := false, laid := [("debenture/crc.shifted", laid_debenture_crc_shifted)] }
def CursorKeysSaid : Prop := cursorKeysRow.holds Tryz.pinned (OpenSpec.ofChange cursorKeysSpec)

/-- ITS FALSE NEIGHBOUR: 'it returns false'. Refute it at one input. -/
def cursorKeysWrong : ChangeSpec := { name := "cursorKeys", fn := fun _ => fun
  | [d1, d2, d3] => { results := [.lit (.bool false)], args := [d1, d2, d3] }
  | _ => none }
def CursorKeysWrongFalsely : Prop := cursorKeysRow.holds Tryz.pinned (OpenSpec.ofChange cursorKeysWrong)

/-- 'debenturelaw14.CursorMerges': WHATEVER THE INPUT: true; the input reads as it did. -/
def cursorMergesSpec : ChangeSpec := { name := "cursorMerges", fn := fun _ => fun
  | [d1, d2] => { results := [.lit (.bool true)], args := [d1, d2] }
  | _ => none }
def cursorMergesRow : OpenClaim := { program := "ytkeeljjbdmmeiaagreatdoor", sum := "fa21840c6ddd41bd10be1c0d9959e895b699f29126e5b1556dc2abe22f9d2500", func := "debenture/debenturelaw14.CursorMerges", spec := "cursorMerges", inPlace := ["internal/bytealg.IndexByteString"], unfollowed := true, recurses := true, named := ["debenture/crc.shifted"], plainKeys := false, apart := false, laid := [("debenture/crc.shifted", laid_debenture_crc_shifted)] }
def CursorMergesSaid : Prop := cursorMergesRow.holds Tryz.pinned (OpenSpec.ofChange cursorMergesSpec)

/-- ITS FALSE NEIGHBOUR: 'it returns false'. Refute it at one input. -/
def cursorMergesWrong : ChangeSpec := { name := "cursorMerges", fn := fun _ => fun
  | [d1, d2] => { results := [.lit (.bool false)], args := [d1, d2] }
  | _ => none }
def CursorMergesWrongFalsely : Prop := cursorMergesRow.holds Tryz.pinned (OpenSpec.ofChange cursorMergesWrong)

/-- 'debenturelaw14.CursorViews': WHATEVER THE INPUT: true; the input reads as it did. -/
def cursorViewsSpec : ChangeSpec := { name := "cursorViews", fn := fun _ => fun
  | [d1, d2, d3] => { results := [.lit (.bool true)], args := [d1, d2, d3] }
  | _ => none }
def cursorViewsRow : OpenClaim := { program := "ytkeeljjbdmmeiaagreatdoor", sum := "fa21840c6ddd41bd10be1c0d9959e895b699f29126e5b1556dc2abe22f9d2500", func := "debenture/debenturelaw14.CursorViews", spec := "cursorViews", inPlace := ["internal/bytealg.IndexByteString"], unfollowed := true, recurses := true, named := ["debenture/crc.shifted"], plainKeys := false, apart := false, laid := [("debenture/crc.shifted", laid_debenture_crc_shifted)] }
def CursorViewsSaid : Prop := cursorViewsRow.holds Tryz.pinned (OpenSpec.ofChange cursorViewsSpec)

/-- ITS FALSE NEIGHBOUR: 'it returns false'. Refute it at one input. -/
def cursorViewsWrong : ChangeSpec := { name := "cursorViews", fn := fun _ => fun
  | [d1, d2, d3] => { results := [.lit (.bool false)], args := [d1, d2, d3] }
  | _ => none }
def CursorViewsWrongFalsely : Prop := cursorViewsRow.holds Tryz.pinned (OpenSpec.ofChange cursorViewsWrong)

/-- 'debenturelaw14.CursorOdd': WHATEVER THE INPUT: true; the input reads as it did. -/
def cursorOddSpec : ChangeSpec := { name := "cursorOdd", fn := fun _ => fun
  | [d1, d2, d3] => { results := [.lit (.bool true)], args := [d1, d2, d3] }
  | _ => none }
def cursorOddRow : OpenClaim := { program := "ytkeeljjbdmmeiaagreatdoor", sum := "fa21840c6ddd41bd10be1c0d9959e895b699f29126e5b1556dc2abe22f9d2500", func := "debenture/debenturelaw14.CursorOdd", spec := "cursorOdd", inPlace := ["internal/bytealg.IndexByteString"], unfollowed := true, recurses := true, named := ["debenture/crc.shifted"], plainKeys := false, apart := false, laid := [("debenture/crc.shifted", laid_debenture_crc_shifted)] }
def CursorOddSaid : Prop := cursorOddRow.holds Tryz.pinned (OpenSpec.ofChange cursorOddSpec)

/-- ITS FALSE NEIGHBOUR: 'it returns false'. Refute it at one input. -/
def cursorOddWrong : ChangeSpec := { name := "cursorOdd", fn := fun _ => fun
  | [d1, d2, d3] => { results := [.lit (.bool false)], args := [d1, d2, d3] }
  | _ => none }
def CursorOddWrongFalsely : Prop := cursorOddRow.holds Tryz.pinned (OpenSpec.ofChange cursorOddWrong)

/-- 'debenturelaw14.CursorNone': WHATEVER THE INPUT: true; the input reads as it did. -/
def cursorNoneSpec : ChangeSpec := { name := "cursorNone", fn := fun _ => fun
  | [d1, d2] => { results := [.lit (.bool true)], args := [d1, d2] }
  | _ => none }
def cursorNoneRow : OpenClaim := { program := "ytkeeljjbdmmeiaagreatdoor", sum := "fa21840c6ddd41bd10be1c0d9959e895b699f29126e5b1556dc2abe22f9d2500", func := "debenture/debenturelaw14.CursorNone", spec := "cursorNone", inPlace := ["internal/bytealg.IndexByteString"], unfollowed := true, recurses := true, named := ["debenture/crc.shifted"], plainKeys := false, apart := false, laid := [("debenture/crc.shifted", laid_debenture_crc_shifted)] }
def CursorNoneSaid : Prop := cursorNoneRow.holds Tryz.pinned (OpenSpec.ofChange cursorNoneSpec)

/-- ITS FALSE NEIGHBOUR: 'it returns false'. Refute it at one input. -/
def cursorNoneWrong : ChangeSpec := { name := "cursorNone", fn := fun _ => fun
  | [d1, d2] => { results := [.lit (.bool false)], args := [d1, d2] }
  | _ => none }
def CursorNoneWrongFalsely : Prop := cursorNoneRow.holds Tryz.pinned (OpenSpec.ofChange cursorNoneWrong)

/- THE SECOND FORM. 'bulk': how many values and letters a reading holds, each counted each time it is reached (what is shared counts as often as it is met; a slice's spare places count too). A statement '..UptoSaid' is the law's where the arguments, and the package variables that the reading takes, are together of bulk at most 1048576: NARROWER than '..Said'. Prove '..Said' where nothing that the law and all that it calls make is longer than what came in: it says more and counts as full. Else prove '..UptoSaid'. A law counts once. -/
mutual
def uptoBulk {H : Type} : DataW H → Nat
  | .lit (.string bytes) => bytes.length + 1
  | .lit _ => 1
  | .nil => 1
  | .ptr d => uptoBulk d + 1
  | .slice elems spare => uptoBulkAll elems + uptoBulkAll spare + 1
  | .agg parts => uptoBulkAll parts + 1
  | .iface _ d => uptoBulk d + 1
  | .map entries => uptoBulkEntries entries + 1
  | .held _ => 1
def uptoBulkAll {H : Type} : List (DataW H) → Nat
  | [] => 0
  | d :: r => uptoBulk d + uptoBulkAll r
def uptoBulkEntries {H : Type} : List (Lit × DataW H) → Nat
  | [] => 0
  | x :: r => uptoBulkEntry x + uptoBulkEntries r
def uptoBulkEntry {H : Type} : Lit × DataW H → Nat
  | (.string bytes, d) => bytes.length + uptoBulk d + 1
  | (_, d) => uptoBulk d + 1
 end
def uptoSmall : (H : Type) → List (DataW H) → Bool := fun _ ds => decide (uptoBulkAll ds ≤ 1048576)
def OpenSpec.upto (s : _root_.Go.ChangeSpec) : _root_.Go.OpenSpec := { _root_.Go.OpenSpec.ofChange s with cond := some uptoSmall }

/-- 'debenturelaw14.CursorKeys', WHERE WHAT IT READS IS OF BULK AT MOST 1048576: true; the input reads as it did. -/
def cursorKeysUptoRow : OpenClaim := { program := "ytkeeljjbdmmeiaagreatdoor", sum := "fa21840c6ddd41bd10be1c0d9959e895b699f29126e5b1556dc2abe22f9d2500", func := "debenture/debenturelaw14.CursorKeys", spec := "cursorKeys", inPlace := ["internal/bytealg.IndexByteString"], unfollowed := true, recurses := true, named := ["debenture/crc.shifted"], plainKeys := false, apart := false, laid := [("debenture/crc.shifted", laid_debenture_crc_shifted)], narrowed := true }
def CursorKeysUptoSaid : Prop := cursorKeysUptoRow.holds Tryz.pinned (OpenSpec.upto cursorKeysSpec)

/-- 'debenturelaw14.CursorMerges', WHERE WHAT IT READS IS OF BULK AT MOST 1048576: true; the input reads as it did. -/
def cursorMergesUptoRow : OpenClaim := { program := "ytkeeljjbdmmeiaagreatdoor", sum := "fa21840c6ddd41bd10be1c0d9959e895b699f29126e5b1556dc2abe22f9d2500", func := "debenture/debenturelaw14.CursorMerges", spec := "cursorMerges", inPlace := ["internal/bytealg.IndexByteString"], unfollowed := true, recurses := true, named := ["debenture/crc.shifted"], plainKeys := false, apart := false, laid := [("debenture/crc.shifted", laid_debenture_crc_shifted)], narrowed := true }
def CursorMergesUptoSaid : Prop := cursorMergesUptoRow.holds Tryz.pinned (OpenSpec.upto cursorMergesSpec)

/-- 'debenturelaw14.CursorViews', WHERE WHAT IT READS IS OF BULK AT MOST 1048576: true; the input reads as it did. -/
def cursorViewsUptoRow : OpenClaim := { program := "ytkeeljjbdmmeiaagreatdoor", sum := "fa21840c6ddd41bd10be1c0d9959e895b699f29126e5b1556dc2abe22f9d2500", func := "debenture/debenturelaw14.CursorViews", spec := "cursorViews", inPlace := ["internal/bytealg.IndexByteString"], unfollowed := true, recurses := true, named := ["debenture/crc.shifted"], plainKeys := false, apart := false, laid := [("debenture/crc.shifted", laid_debenture_crc_shifted)], narrowed := true }
def CursorViewsUptoSaid : Prop := cursorViewsUptoRow.holds Tryz.pinned (OpenSpec.upto cursorViewsSpec)

/-- 'debenturelaw14.CursorOdd', WHERE WHAT IT READS IS OF BULK AT MOST 1048576: true; the input reads as it did. -/
def cursorOddUptoRow : OpenClaim := { program := "ytkeeljjbdmmeiaagreatdoor", sum := "fa21840c6ddd41bd10be1c0d9959e895b699f29126e5b1556dc2abe22f9d2500", func := "debenture/debenturelaw14.CursorOdd", spec := "cursorOdd", inPlace := ["internal/bytealg.IndexByteString"], unfollowed := true, recurses := true, named := ["debenture/crc.shifted"], plainKeys := false, apart := false, laid := [("debenture/crc.shifted", laid_debenture_crc_shifted)], narrowed := true }
def CursorOddUptoSaid : Prop := cursorOddUptoRow.holds Tryz.pinned (OpenSpec.upto cursorOddSpec)

/-- 'debenturelaw14.CursorNone', WHERE WHAT IT READS IS OF BULK AT MOST 1048576: true; the input reads as it did. -/
def cursorNoneUptoRow : OpenClaim := { program := "ytkeeljjbdmmeiaagreatdoor", sum := "fa21840c6ddd41bd10be1c0d9959e895b699f29126e5b1556dc2abe22f9d2500", func := "debenture/debenturelaw14.CursorNone", spec := "cursorNone", inPlace := ["internal/bytealg.IndexByteString"], unfollowed := true, recurses := true, named := ["debenture/crc.shifted"], plainKeys := false, apart := false, laid := [("debenture/crc.shifted", laid_debenture_crc_shifted)], narrowed := true }
def CursorNoneUptoSaid : Prop := cursorNoneUptoRow.holds Tryz.pinned (OpenSpec.upto cursorNoneSpec)

end Rows
end Go.Proofs.YtkeeljjbdmmeiaaGreatDoor
