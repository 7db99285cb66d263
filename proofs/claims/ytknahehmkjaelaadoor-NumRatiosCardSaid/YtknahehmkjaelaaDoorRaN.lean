/- What the law's same answers of two ratios that are the same. No conditions. -/
import Derived.Test.YtknahehmkjaelaaDoorNuE
namespace Go.Proofs.YtknahehmkjaelaaDoor
open Go.RowKit Go.Sort
set_option linter.unusedSimpArgs false
set_option linter.unusedVariables false

theorem same_any (a b : Int) (x : Bool) (w : World) : Calls Tryd.prog 31 #[.agg #[.int .i64 a, .int .i64 b], .bool x, .agg #[.int .i64 a, .int .i64 b], .bool x] w fun e w' => e = .returned (.bool true) ∧ Below w.heap.size w w' := by
  have t1 : (a == a) = true := by simp
  have t2 : (b == b) = true := by simp
  have t3 : (x == x) = true := by simp
  go_enter Tryd.func31, Tryd.ntmps31
  go_wp2_with fail
  go_ret
  exact ⟨rfl, ((Below.refl _ _).alloc (Nat.le_refl _) _).alloc (by simp) _⟩
end Go.Proofs.YtknahehmkjaelaaDoor
