/- The law SkipNone walked: for every key and value the call returns true. Condition: the library's table of trailing zeros stands in memory. -/
import Derived.Test.YtnganclkjoiggaaDoorSkKs
namespace Go.Proofs.YtnganclkjoiggaaDoor
open Go.RowKit Go.Maps Go.WideShapes
set_option linter.unusedVariables false
set_option linter.unusedSimpArgs false
namespace sk
set_option maxRecDepth 100000 in
set_option maxHeartbeats 4000000 in
theorem skipNone_walk (k : ByteArray) (v : Int) (w0 : k.size ≤ maxLen) (w1 : (Lit.int .i64 v).wf = true) (w : World) (hT : TzAt w) :
    Calls Tryd.prog 7 #[.string k, .int .i64 v] w fun e w' => e = .returned (.bool true) ∧ Below w.heap.size w w' := by
  have CL := Lib.hid (looks_nil k w)
  have CA : Hid (∀ w', Below w.heap.size w w' → Calls Tryd.prog 8 #[] w' fun e w'' => e = .returned (.bool true) ∧ Below w'.heap.size w' w'') := Lib.hid fun w' hb => awake_any w' (hT.next hb)
  clear hT w0 w1
  go_enter Tryd.func7, Tryd.ntmps7
  go_wp2_with (first | (go_at_call 11; (with_reducible refine (nput _ _ _).mono ?_); rintro e w3' ⟨rfl, rfl⟩) | (go_at_call 29; (with_reducible refine (nget _ _).mono ?_); rintro e w3' ⟨rfl, rfl⟩) | (go_at_call 13; (with_reducible refine (ndel _ _).mono ?_); rintro e w3' ⟨rfl, rfl⟩) | (go_at_call 15; (with_reducible refine (nclear _).mono ?_); rintro e w3' ⟨rfl, rfl⟩) | (go_at_call 16; (with_reducible refine CL.out.mono ?_); rintro e w1 ⟨rfl, hb1⟩; have HB1 := Lib.hid hb1; clear hb1) | (go_at_call 17; (with_reducible refine (nkeys _).mono ?_); rintro e w3' ⟨rfl, rfl⟩) | (go_at_call 8; (with_reducible refine (CA.out _ HB1.out).mono ?_); rintro e w2 ⟨rfl, hb2⟩; have HB2 := Lib.hid (below_mono HB1.out hb2 (Nat.le_refl _)); clear hb2))
  go_ret
  exact ⟨rfl, HB2.out⟩
end sk
end Go.Proofs.YtnganclkjoiggaaDoor
