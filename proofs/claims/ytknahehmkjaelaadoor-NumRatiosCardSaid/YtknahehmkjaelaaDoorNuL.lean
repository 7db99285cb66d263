/- How far math/bits.Div64 shifts. Conditions: those written at each theorem. -/
import Derived.Test.YtknahehmkjaelaaDoorNuN
import Derived.Test.YtknahehmkjaelaaDoorNuK
namespace Go.Proofs.YtknahehmkjaelaaDoor
open Go.RowKit Go.Sort
set_option linter.unusedSimpArgs false
set_option linter.unusedVariables false
theorem bitLen_log {x : Nat} (h : 0 < x) (hx : x < 2 ^ 64) : Lib.bitLen x = x.log2 + 1 := by
  have h1 : 2 ^ x.log2 ≤ x := Nat.log2_self_le (by omega)
  have h2 : x < 2 ^ (x.log2 + 1) := Nat.lt_log2_self
  have h3 : x / 2 ^ x.log2 = 1 := by
    rw [Nat.div_eq_iff (Nat.two_pow_pos _)]
    rw [Nat.pow_succ] at h2
    constructor <;> omega
  rw [Lib.bitLen_shift _ _ h1 hx, h3, Nat.add_comm, show Lib.bitLen 1 = 1 by decide, Nat.add_comm]
/-- How far a number is shifted until its greatest bit is the greatest of a word. -/
theorem norm {y : Nat} (hy : 0 < y) (hy' : y < 2 ^ 64) : ∃ s : Nat, s ≤ 63 ∧ 64 - (Lib.bitLen y : Int) = (s : Int) ∧ 9223372036854775808 ≤ y * 2 ^ s ∧ y * 2 ^ s < 18446744073709551616 := by
  have h1 : 2 ^ y.log2 ≤ y := Nat.log2_self_le (by omega)
  have h2 : y < 2 ^ (y.log2 + 1) := Nat.lt_log2_self
  have h3 : y.log2 < 64 := (Nat.log2_lt (by omega)).2 hy'
  refine ⟨63 - y.log2, by omega, by rw [bitLen_log hy hy']; omega, ?_, ?_⟩
  · have := Nat.mul_le_mul_right (2 ^ (63 - y.log2)) h1
    rw [← Nat.pow_add, show y.log2 + (63 - y.log2) = 63 by omega] at this
    simpa using this
  · have := Nat.mul_lt_mul_of_pos_right h2 (Nat.two_pow_pos (63 - y.log2))
    rw [← Nat.pow_add, show y.log2 + 1 + (63 - y.log2) = 64 by omega] at this
    simpa using this
end Go.Proofs.YtknahehmkjaelaaDoor
