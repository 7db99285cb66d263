/- What the Go function away of package num answers at any numbers. Conditions: those written at each theorem. -/
import Derived.Test.YtknahehmkjaelaaDoorNuN
namespace Go.Proofs.YtknahehmkjaelaaDoor
open Go.RowKit Go.Sort
set_option linter.unusedSimpArgs false
set_option linter.unusedVariables false

/-- Is a quotient with that rest rounded away from nought? -/
def awayB (quo rest by' : Nat) (neg : Bool) (mode : Int) : Bool :=
  if mode = 1 then neg && decide (rest ≠ 0) else if mode = 2 then decide (by' ≤ 2 * rest) else if mode = 3 then decide (by' < 2 * rest) || (decide (by' = 2 * rest) && decide (quo % 2 = 1)) else false
theorem away_down (quo rest by' : Nat) (neg : Bool) (h : rest < by') (hb : by' < 18446744073709551616) (w : World) :
    Calls Tryd.prog 53 #[.int .u64 quo, .int .u64 rest, .int .u64 by', .bool neg, .int .i64 0] w fun e w' => e = .returned (.bool (awayB quo rest by' neg 0)) ∧ w = w' := by
  have y1 : IntKind.u64.wrap ((by' : Int) - (rest : Int)) = (by' : Int) - (rest : Int) := by rw [IntKind.wrap_u64]; omega
  clear h hb
  go_enter Tryd.func53, Tryd.ntmps53
  go_wp2_with fail
  go_ret
  exact ⟨by simp [awayB], rfl⟩
theorem away_floor (quo rest by' : Nat) (neg : Bool) (h : rest < by') (hb : by' < 18446744073709551616) (w : World) :
    Calls Tryd.prog 53 #[.int .u64 quo, .int .u64 rest, .int .u64 by', .bool neg, .int .i64 1] w fun e w' => e = .returned (.bool (awayB quo rest by' neg 1)) ∧ w = w' := by
  have y1 : IntKind.u64.wrap ((by' : Int) - (rest : Int)) = (by' : Int) - (rest : Int) := by rw [IntKind.wrap_u64]; omega
  clear h hb
  cases neg <;> by_cases h0 : rest = 0
  all_goals (
    go_enter Tryd.func53, Tryd.ntmps53
    go_wp2_with fail
    go_ret
    exact ⟨by simp [awayB, h0], rfl⟩)
theorem away_half (quo rest by' : Nat) (neg : Bool) (h : rest < by') (hb : by' < 18446744073709551616) (w : World) :
    Calls Tryd.prog 53 #[.int .u64 quo, .int .u64 rest, .int .u64 by', .bool neg, .int .i64 2] w fun e w' => e = .returned (.bool (awayB quo rest by' neg 2)) ∧ w = w' := by
  have y1 : IntKind.u64.wrap ((by' : Int) - (rest : Int)) = (by' : Int) - (rest : Int) := by rw [IntKind.wrap_u64]; omega
  have e1 : decide ((by' : Int) - (rest : Int) ≤ (rest : Int)) = awayB quo rest by' neg 2 := by
    simp only [awayB]; simp only [show ¬ ((2 : Int) = 1) by decide, if_false, if_true]; rw [decide_eq_decide]; omega
  clear h hb
  go_enter Tryd.func53, Tryd.ntmps53
  go_wp2_with fail
  go_ret
  exact ⟨by first | rfl | rw [e1], rfl⟩
theorem away_even (quo rest by' : Nat) (neg : Bool) (h : rest < by') (hb : by' < 18446744073709551616) (w : World) :
    Calls Tryd.prog 53 #[.int .u64 quo, .int .u64 rest, .int .u64 by', .bool neg, .int .i64 3] w fun e w' => e = .returned (.bool (awayB quo rest by' neg 3)) ∧ w = w' := by
  obtain ⟨m, hm⟩ : ∃ m : Nat, m = by' - rest := ⟨_, rfl⟩
  have y0 : (by' : Int) - (rest : Int) = (m : Int) := by omega
  have y1 : IntKind.u64.wrap (m : Int) = (m : Int) := by rw [IntKind.wrap_u64]; omega
  rcases Nat.lt_trichotomy m rest with h1 | h1 | h1
  · have e1 : awayB quo rest by' neg 3 = true := by simp [awayB]; omega
    have h2 : (m : Int) < (rest : Int) := by omega
    rw [e1]
    clear h hb hm
    go_enter Tryd.func53, Tryd.ntmps53
    go_wp2
    all_goals go_ret
    all_goals exact ⟨rfl, rfl⟩
  · have e1 : awayB quo rest by' neg 3 = decide (quo % 2 = 1) := by
      have hbm : by' = 2 * rest := by omega
      simp [awayB, hbm]
    subst h1
    rw [e1]
    rcases Nat.mod_two_eq_zero_or_one quo with h3 | h3
    · have h4 : (quo : Int) % 2 = 0 := by omega
      rw [h3]
      clear h hb hm
      go_enter Tryd.func53, Tryd.ntmps53
      go_wp2
      all_goals go_ret
      all_goals exact ⟨rfl, rfl⟩
    · have h4 : (quo : Int) % 2 = 1 := by omega
      rw [h3]
      clear h hb hm
      go_enter Tryd.func53, Tryd.ntmps53
      go_wp2
      all_goals go_ret
      all_goals exact ⟨rfl, rfl⟩
  · have e1 : awayB quo rest by' neg 3 = false := by simp [awayB]; omega
    have h2 : ¬ (m : Int) < (rest : Int) := by omega
    have h3 : ¬ (rest : Int) = (m : Int) := by omega
    have h3' : ((rest : Int) == (m : Int)) = false := by simp; omega
    rw [e1]
    clear h hb hm
    go_enter Tryd.func53, Tryd.ntmps53
    go_wp2
    all_goals go_ret
    all_goals exact ⟨rfl, rfl⟩
end Go.Proofs.YtknahehmkjaelaaDoor
