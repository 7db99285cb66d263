/- The law NumSums walked: for every list of numbers the call returns true. No conditions. -/
import Derived.Test.YtknahehmkjaelaaDoorNuF
import Derived.Test.YtknahehmkjaelaaDoorNuG
import Derived.OpenShut
namespace Go.Proofs.YtknahehmkjaelaaDoor
open Go.RowKit
set_option linter.unusedSimpArgs false
set_option linter.unusedVariables false

set_option maxRecDepth 100000 in
set_option maxHeartbeats 1000000 in
theorem numSums_walk (ao : Option Addr) (cap : Nat) (l : List Int) (w : World) (h : SAt w.heap.size ao (is64 l) w) (hm : l.length ≤ maxLen) (hx : ∀ x ∈ l, (Lit.int .i64 x).wf = true) :
    Calls Tryd.prog 5 #[.slice ao l.length cap] w fun e w' => e = .returned (.bool true) ∧ Below w.heap.size w w' := by
  unfold maxLen at hm
  have hb : ∀ x ∈ l, -9223372036854775808 ≤ x ∧ x ≤ 9223372036854775807 := fun x hx' => bounds_i64 (hx x hx')
  have H := Lib.hid h
  have HX := Lib.hid hb
  clear h hx hb
  by_cases hl : 200 < l.length
  · have hl' : (200 : Int) < (l.length : Int) := by omega
    go_enter Tryd.func5, Tryd.ntmps5
    go_wp2_with (go_at_call 22; refine (awake_any _).mono ?_; rintro e2 w2 ⟨rfl, hB⟩)
    go_ret
    exact ⟨rfl, hB⟩
  · have hl' : ¬ (200 : Int) < (l.length : Int) := by omega
    go_enter Tryd.func5, Tryd.ntmps5
    go_wp2_with fail
    refine (sum_any ao cap l _ (by omega) HX.out H.out).mono ?_
    rintro e w1 ⟨hp, rfl⟩
    obtain ⟨n, ok, rfl, ha⟩ := hp.ans
    have HA := Lib.hid ha
    clear hp ha
    go_wp2_with fail
    refine (rsum_any ao cap l _ (by omega) HX.out H.out).mono ?_
    rintro e w2 ⟨v, rfl, hv, hB⟩
    have HV := Lib.hid hv
    have HB := Lib.hid hB
    clear hv hB
    go_wp2_with fail
    refine (is_small l.sum n ok v _ (dg_len5 (by have := take_sum_bound l l.length (by omega) HX.out; rwa [List.take_length] at this)) HV.out HA.out).mono ?_
    rintro e w3 ⟨rfl, hB3⟩
    have HC := Lib.hid (below_mono HB.out hB3 (Nat.le_refl _))
    clear hB3
    go_wp2_with fail
    refine (awake_any _).mono ?_
    rintro e w4 ⟨rfl, hB4⟩
    have HD := Lib.hid (below_mono HC.out hB4 (Nat.le_refl _))
    clear hB4
    go_wp2_with fail
    go_ret
    exact ⟨rfl, HD.out⟩
end Go.Proofs.YtknahehmkjaelaaDoor
