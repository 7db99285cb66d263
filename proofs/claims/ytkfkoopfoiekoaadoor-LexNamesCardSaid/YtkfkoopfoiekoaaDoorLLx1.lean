/- The law LexNames walked. Conditions: those written at each theorem. -/
import Derived.Test.YtkfkoopfoiekoaaDoorLxI
namespace Go.Proofs.YtkfkoopfoiekoaaDoor
open Go.RowKit Go.PlainAid
set_option linter.unusedVariables false
set_option linter.unusedSimpArgs false
set_option maxRecDepth 100000 in
set_option maxHeartbeats 4000000 in
theorem lexNames_walk (s : ByteArray) (c : Int) (w0 : s.size ≤ maxLen) (W : World) (hE : EV W) : Calls Tryd.prog 4 #[.string s, .int .u8 c] W fun e w' => e = .returned (.bool true) ∧ Below W.heap.size W w' := by
  have CN := Lib.hid (named_any s w0)
  have CM := Lib.hid (rnamed_any s w0)
  have CL := Lib.hid (letter_any c)
  have CT := Lib.hid (rletter_any c)
  have CA := Lib.hid (awake_any W hE)
  generalize nmd s.data.toList = b at CN CM
  generalize isL c = a at CL CT
  clear hE
  have hs63 : s.size < 9223372036854775808 := by unfold maxLen at w0; omega
  by_cases h3 : (300 : Int) < (s.size : Int) <;> cases a <;> cases b <;> (
    go_enter Tryd.func4, Tryd.ntmps4
    go_wp2_with (first | (go_at_call 12; (with_reducible refine (CN.out _).mono ?_); rintro e w2 ⟨rfl, rfl⟩) | (go_at_call 13; (with_reducible refine (CM.out _).mono ?_); rintro e w2 ⟨rfl, rfl⟩) | (go_at_call 14; (with_reducible refine (CL.out _).mono ?_); rintro e w2 ⟨rfl, rfl⟩) | (go_at_call 15; (with_reducible refine (CT.out _).mono ?_); rintro e w2 ⟨rfl, rfl⟩) | (go_at_call 8; (with_reducible refine CA.out.mono ?_); rintro e w3 ⟨rfl, hb⟩; have HB := Lib.hid hb; clear hb))
    go_ret
    exact ⟨rfl, HB.out⟩)
end Go.Proofs.YtkfkoopfoiekoaaDoor
