/- What the Go functions size, signed, Div64 (of a number that fits), away, MulDiv at small numbers, Min, Sum of package num answer. Conditions: those written at each theorem. -/
import Derived.Test.YthodlkacfcnhnaaNuA
import Derived.Test.YthodlkacfcnhnaaShelf
import Derived.Shelf.Spec.BitsCarry
import Derived.WalkLawsBesides
import Derived.WalkSpells
namespace Go.Proofs.Ythodlkacfcnhnaa.Nu
open Go.RowKit Go.Sort
set_option linter.unusedSimpArgs false
set_option linter.unusedVariables false

theorem size_nat (n : Nat) (h : n ≤ 9223372036854775807) (w : World) :
    Calls Try.prog 74 #[.int .i64 n] w fun e w' => e = .returned (.int .u64 n) ∧ w = w' := by
  have h0 : ¬ (n : Int) < 0 := by omega
  go_enter Try.func74, Try.ntmps74
  go_wp2
  go_ret
  exact ⟨rfl, rfl⟩
theorem size_neg (n : Nat) (h1 : 1 ≤ n) (h : n ≤ 9223372036854775808) (w : World) :
    Calls Try.prog 74 #[.int .i64 (-(n : Int))] w fun e w' => e = .returned (.int .u64 n) ∧ w = w' := by
  obtain ⟨m, hm⟩ : ∃ m : Int, m = -(n : Int) := ⟨_, rfl⟩
  have h0 : m < 0 := by omega
  have y1 : IntKind.u64.wrap m = m + 18446744073709551616 := by rw [IntKind.wrap_u64]; omega
  have y2 : IntKind.u64.wrap (-(m + 18446744073709551616)) = (n : Int) := by rw [IntKind.wrap_u64]; omega
  have hm1 : -9223372036854775808 ≤ m := by omega
  rw [← hm]
  clear hm
  go_enter Try.func74, Try.ntmps74
  go_wp2
  go_ret
  exact ⟨rfl, rfl⟩
theorem size_any (a : Int) (h0 : -9223372036854775808 ≤ a) (h1 : a ≤ 9223372036854775807) (w : World) :
    Calls Try.prog 74 #[.int .i64 a] w fun e w' => e = .returned (.int .u64 a.natAbs) ∧ w = w' := by
  rcases Int.lt_or_le a 0 with h | h
  · have := size_neg a.natAbs (by omega) (by omega) w
    rwa [show -(a.natAbs : Int) = a by omega] at this
  · have := size_nat a.natAbs (by omega) w
    rw [show (a.natAbs : Int) = a by omega] at this ⊢
    exact this
theorem mul64_any (x y : Nat) (hx : x < 18446744073709551616) (hy : y < 18446744073709551616) (w : World) :
    Calls Try.prog 54 #[.int .u64 x, .int .u64 y] w fun e w' => e = .returned (.tuple #[.int .u64 (x * y / 18446744073709551616 : Nat), .int .u64 (x * y % 18446744073709551616 : Nat)]) ∧ Below w.heap.size w w' :=
  (Try.bits_Mul64 x y hx hy w).mono fun e w' h => ⟨h.1, by rw [h.2]; exact Below.refl _ _⟩

theorem below_of_eq {B : Nat} {w w' : World} (h : w = w') : Below B w w' := h ▸ Below.refl _ _
theorem size7 (w : World) : Calls Try.prog 74 #[.int .i64 7] w fun e w' => e = .returned (.int .u64 7) ∧ w = w' := size_nat 7 (by omega) w
theorem size10 (w : World) : Calls Try.prog 74 #[.int .i64 10] w fun e w' => e = .returned (.int .u64 10) ∧ w = w' := size_nat 10 (by omega) w
theorem size1 (w : World) : Calls Try.prog 74 #[.int .i64 1] w fun e w' => e = .returned (.int .u64 1) ∧ w = w' := size_nat 1 (by omega) w
theorem size2 (w : World) : Calls Try.prog 74 #[.int .i64 2] w fun e w' => e = .returned (.int .u64 2) ∧ w = w' := size_nat 2 (by omega) w
theorem size3 (w : World) : Calls Try.prog 74 #[.int .i64 3] w fun e w' => e = .returned (.int .u64 3) ∧ w = w' := size_nat 3 (by omega) w
theorem mul7 (w : World) : Calls Try.prog 54 #[.int .u64 7, .int .u64 1] w fun e w' => e = .returned (.tuple #[.int .u64 0, .int .u64 7]) ∧ w' = w := Try.bits_Mul64 7 1 (by omega) (by omega) w
theorem mul10 (w : World) : Calls Try.prog 54 #[.int .u64 10, .int .u64 1] w fun e w' => e = .returned (.tuple #[.int .u64 0, .int .u64 10]) ∧ w' = w := Try.bits_Mul64 10 1 (by omega) (by omega) w
end Go.Proofs.Ythodlkacfcnhnaa.Nu
