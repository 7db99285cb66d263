/- What the Go functions size, signed, Div64 (of a number that fits), away, MulDiv at small numbers, Min, Sum of package num answer. Conditions: those written at each theorem. -/
import Derived.Test.YtknahehmkjaelaaDoorNuA
import Derived.Test.YtknahehmkjaelaaDoorShelf
import Derived.Shelf.Spec.BitsCarry
import Derived.WalkLawsBesides
import Derived.WalkSpells
namespace Go.Proofs.YtknahehmkjaelaaDoor
open Go.RowKit Go.Sort
set_option linter.unusedSimpArgs false
set_option linter.unusedVariables false

theorem size_nat (n : Nat) (h : n ≤ 9223372036854775807) (w : World) :
    Calls Tryd.prog 44 #[.int .i64 n] w fun e w' => e = .returned (.int .u64 n) ∧ w = w' := by
  have h0 : ¬ (n : Int) < 0 := by omega
  go_enter Tryd.func44, Tryd.ntmps44
  go_wp2
  go_ret
  exact ⟨rfl, rfl⟩
theorem size_neg (n : Nat) (h1 : 1 ≤ n) (h : n ≤ 9223372036854775808) (w : World) :
    Calls Tryd.prog 44 #[.int .i64 (-(n : Int))] w fun e w' => e = .returned (.int .u64 n) ∧ w = w' := by
  obtain ⟨m, hm⟩ : ∃ m : Int, m = -(n : Int) := ⟨_, rfl⟩
  have h0 : m < 0 := by omega
  have y1 : IntKind.u64.wrap m = m + 18446744073709551616 := by rw [IntKind.wrap_u64]; omega
  have y2 : IntKind.u64.wrap (-(m + 18446744073709551616)) = (n : Int) := by rw [IntKind.wrap_u64]; omega
  have hm1 : -9223372036854775808 ≤ m := by omega
  rw [← hm]
  clear hm
  go_enter Tryd.func44, Tryd.ntmps44
  go_wp2
  go_ret
  exact ⟨rfl, rfl⟩
theorem size_any (a : Int) (h0 : -9223372036854775808 ≤ a) (h1 : a ≤ 9223372036854775807) (w : World) :
    Calls Tryd.prog 44 #[.int .i64 a] w fun e w' => e = .returned (.int .u64 a.natAbs) ∧ w = w' := by
  rcases Int.lt_or_le a 0 with h | h
  · have := size_neg a.natAbs (by omega) (by omega) w
    rwa [show -(a.natAbs : Int) = a by omega] at this
  · have := size_nat a.natAbs (by omega) w
    rw [show (a.natAbs : Int) = a by omega] at this ⊢
    exact this
theorem signed_pos (n : Nat) (h : n ≤ 9223372036854775807) (w : World) :
    Calls Tryd.prog 45 #[.bool false, .int .u64 n] w fun e w' => e = .returned (.tuple #[.int .i64 n, .bool true]) ∧ w = w' := by
  have h0 : ¬ (9223372036854775807 : Int) < (n : Int) := by omega
  go_enter Tryd.func45, Tryd.ntmps45
  go_wp2
  all_goals go_ret2
  all_goals exact ⟨rfl, rfl⟩
theorem signed_great (n : Nat) (h : 9223372036854775807 < n) (w : World) :
    Calls Tryd.prog 45 #[.bool false, .int .u64 n] w fun e w' => e = .returned (.tuple #[.int .i64 0, .bool false]) ∧ w = w' := by
  have h0 : (9223372036854775807 : Int) < (n : Int) := by omega
  go_enter Tryd.func45, Tryd.ntmps45
  go_wp2
  all_goals go_ret2
  all_goals exact ⟨rfl, rfl⟩
theorem signed_low (n : Nat) (h : 9223372036854775808 < n) (w : World) :
    Calls Tryd.prog 45 #[.bool true, .int .u64 n] w fun e w' => e = .returned (.tuple #[.int .i64 0, .bool false]) ∧ w = w' := by
  have h0 : ¬ (n : Int) ≤ (9223372036854775808 : Int) := by omega
  go_enter Tryd.func45, Tryd.ntmps45
  go_wp2
  all_goals go_ret2
  all_goals exact ⟨rfl, rfl⟩
theorem signed_neg (n : Nat) (h : n ≤ 9223372036854775808) (w : World) :
    Calls Tryd.prog 45 #[.bool true, .int .u64 n] w fun e w' => e = .returned (.tuple #[.int .i64 (-(n : Int)), .bool true]) ∧ w = w' := by
  have h0 : (n : Int) ≤ (9223372036854775808 : Int) := by omega
  have y2 : IntKind.i64.wrap (IntKind.u64.wrap (-(n : Int))) = -(n : Int) := by rw [IntKind.wrap_u64, IntKind.wrap_i64]; omega
  go_enter Tryd.func45, Tryd.ntmps45
  go_wp2
  all_goals go_ret2
  all_goals exact ⟨rfl, rfl⟩
theorem div_small (lo y : Nat) (h : lo < 18446744073709551616) (hy : 1 ≤ y) (hy' : y < 18446744073709551616) (w : World) :
    Calls Tryd.prog 52 #[.int .u64 0, .int .u64 lo, .int .u64 y] w fun e w' => e = .returned (.tuple #[.int .u64 (lo / y : Nat), .int .u64 (lo % y : Nat)]) ∧ ∃ n, w' = w.drewN n := by
  have h0 : ((y : Int) == 0) = false := by rw [beq_eq_false_iff_ne]; omega
  have h1 : ¬ (y : Int) ≤ 0 := by omega
  have h2 : ¬ (y : Int) = 0 := by omega
  have h4 : (y = 0) = False := by simp; omega
  have q1 : IntKind.u64.wrap ((lo : Int) / (y : Int)) = ((lo / y : Nat) : Int) := by
    have := Nat.div_le_self lo y
    rw [← Int.natCast_ediv, IntKind.wrap_u64]
    generalize lo / y = q at *
    omega
  have h3 : ((lo : Int) / (y : Int)) = ((lo / y : Nat) : Int) := by rw [Int.natCast_ediv]
  have h5 : ((lo : Int) % (y : Int)) = ((lo % y : Nat) : Int) := by rw [Int.natCast_emod]
  obtain ⟨q, hq⟩ : ∃ q, q = lo / y := ⟨_, rfl⟩
  obtain ⟨r, hr⟩ : ∃ r, r = lo % y := ⟨_, rfl⟩
  rw [← hq] at h3 q1 ⊢
  rw [← hr] at h5 ⊢
  rw [h3] at q1
  clear hq hr
  go_enter Tryd.func52, Tryd.ntmps52
  go_wp2_with fail
  go_quiet (fail)
  go_wp2_with fail
  go_ret2
  exact ⟨by rw [← h5]; rfl, _, rfl⟩
theorem mul64_any (x y : Nat) (hx : x < 18446744073709551616) (hy : y < 18446744073709551616) (w : World) :
    Calls Tryd.prog 43 #[.int .u64 x, .int .u64 y] w fun e w' => e = .returned (.tuple #[.int .u64 (x * y / 18446744073709551616 : Nat), .int .u64 (x * y % 18446744073709551616 : Nat)]) ∧ Below w.heap.size w w' :=
  (Tryd.bits_Mul64 x y hx hy w).mono fun e w' h => ⟨h.1, by rw [h.2]; exact Below.refl _ _⟩

theorem below_of_eq {B : Nat} {w w' : World} (h : w = w') : Below B w w' := h ▸ Below.refl _ _
theorem size7 (w : World) : Calls Tryd.prog 44 #[.int .i64 7] w fun e w' => e = .returned (.int .u64 7) ∧ w = w' := size_nat 7 (by omega) w
theorem size10 (w : World) : Calls Tryd.prog 44 #[.int .i64 10] w fun e w' => e = .returned (.int .u64 10) ∧ w = w' := size_nat 10 (by omega) w
theorem size1 (w : World) : Calls Tryd.prog 44 #[.int .i64 1] w fun e w' => e = .returned (.int .u64 1) ∧ w = w' := size_nat 1 (by omega) w
theorem size2 (w : World) : Calls Tryd.prog 44 #[.int .i64 2] w fun e w' => e = .returned (.int .u64 2) ∧ w = w' := size_nat 2 (by omega) w
theorem size3 (w : World) : Calls Tryd.prog 44 #[.int .i64 3] w fun e w' => e = .returned (.int .u64 3) ∧ w = w' := size_nat 3 (by omega) w
theorem mul7 (w : World) : Calls Tryd.prog 43 #[.int .u64 7, .int .u64 1] w fun e w' => e = .returned (.tuple #[.int .u64 0, .int .u64 7]) ∧ w' = w := Tryd.bits_Mul64 7 1 (by omega) (by omega) w
theorem mul10 (w : World) : Calls Tryd.prog 43 #[.int .u64 10, .int .u64 1] w fun e w' => e = .returned (.tuple #[.int .u64 0, .int .u64 10]) ∧ w' = w := Tryd.bits_Mul64 10 1 (by omega) (by omega) w
theorem div7 (w : World) : Calls Tryd.prog 52 #[.int .u64 0, .int .u64 7, .int .u64 2] w fun e w' => e = .returned (.tuple #[.int .u64 3, .int .u64 1]) ∧ ∃ n, w' = w.drewN n := div_small 7 2 (by omega) (by omega) (by omega) w
theorem div10 (w : World) : Calls Tryd.prog 52 #[.int .u64 0, .int .u64 10, .int .u64 3] w fun e w' => e = .returned (.tuple #[.int .u64 3, .int .u64 1]) ∧ ∃ n, w' = w.drewN n := div_small 10 3 (by omega) (by omega) (by omega) w
theorem sign4 (w : World) : Calls Tryd.prog 45 #[.bool false, .int .u64 4] w fun e w' => e = .returned (.tuple #[.int .i64 4, .bool true]) ∧ w = w' := signed_pos 4 (by omega) w
theorem sign3 (w : World) : Calls Tryd.prog 45 #[.bool false, .int .u64 3] w fun e w' => e = .returned (.tuple #[.int .i64 3, .bool true]) ∧ w = w' := signed_pos 3 (by omega) w
theorem away7 (w : World) : Calls Tryd.prog 53 #[.int .u64 3, .int .u64 1, .int .u64 2, .bool false, .int .i64 3] w fun e w' => e = .returned (.bool true) ∧ w = w' := by
  go_enter Tryd.func53, Tryd.ntmps53
  go_wp2_with fail
  go_ret
  exact ⟨rfl, rfl⟩
theorem away10 (w : World) : Calls Tryd.prog 53 #[.int .u64 3, .int .u64 1, .int .u64 3, .bool false, .int .i64 1] w fun e w' => e = .returned (.bool false) ∧ w = w' := by
  go_enter Tryd.func53, Tryd.ntmps53
  go_wp2_with fail
  go_ret
  exact ⟨rfl, rfl⟩
set_option maxHeartbeats 1000000 in
/-- Seven halves are four, to the even; ten thirds are three, downwards. -/
theorem seven_halves (w : World) : Calls Tryd.prog 23 #[.int .i64 7, .int .i64 1, .int .i64 2, .int .i64 3] w fun e w' => e = .returned (.tuple #[.int .i64 4, .bool true]) ∧ ∃ n, w' = w.drewN n := by
  go_enter Tryd.func23, Tryd.ntmps23
  go_wp2_with (go_at_call 44; first | ((with_reducible refine (size7 _).mono ?_); rintro e w' ⟨rfl, rfl⟩) | ((with_reducible refine (size1 _).mono ?_); rintro e w' ⟨rfl, rfl⟩) | ((with_reducible refine (size2 _).mono ?_); rintro e w' ⟨rfl, rfl⟩))
  refine (mul7 _).mono ?_
  rintro e w1 ⟨rfl, rfl⟩
  go_wp2_with (go_at_call 44; (with_reducible refine (size2 _).mono ?_); rintro e w' ⟨rfl, rfl⟩)
  refine (div7 _).mono ?_
  rintro e w2 ⟨rfl, n, rfl⟩
  go_wp2_with (go_at_call 44; (with_reducible refine (size2 _).mono ?_); rintro e w' ⟨rfl, rfl⟩)
  refine (away7 _).mono ?_
  rintro e w3 ⟨rfl, rfl⟩
  go_wp2_with fail
  refine (sign4 _).mono ?_
  rintro e w3 ⟨rfl, rfl⟩
  go_wp2_with fail
  go_ret2
  exact ⟨rfl, n, rfl⟩
set_option maxHeartbeats 1000000 in
theorem ten_thirds (w : World) : Calls Tryd.prog 23 #[.int .i64 10, .int .i64 1, .int .i64 3, .int .i64 1] w fun e w' => e = .returned (.tuple #[.int .i64 3, .bool true]) ∧ ∃ n, w' = w.drewN n := by
  go_enter Tryd.func23, Tryd.ntmps23
  go_wp2_with (go_at_call 44; first | ((with_reducible refine (size10 _).mono ?_); rintro e w' ⟨rfl, rfl⟩) | ((with_reducible refine (size1 _).mono ?_); rintro e w' ⟨rfl, rfl⟩) | ((with_reducible refine (size3 _).mono ?_); rintro e w' ⟨rfl, rfl⟩))
  refine (mul10 _).mono ?_
  rintro e w1 ⟨rfl, rfl⟩
  go_wp2_with (go_at_call 44; (with_reducible refine (size3 _).mono ?_); rintro e w' ⟨rfl, rfl⟩)
  refine (div10 _).mono ?_
  rintro e w2 ⟨rfl, n, rfl⟩
  go_wp2_with (go_at_call 44; (with_reducible refine (size3 _).mono ?_); rintro e w' ⟨rfl, rfl⟩)
  refine (away10 _).mono ?_
  rintro e w3 ⟨rfl, rfl⟩
  go_wp2_with fail
  refine (sign3 _).mono ?_
  rintro e w3 ⟨rfl, rfl⟩
  go_wp2_with fail
  go_ret2
  exact ⟨rfl, n, rfl⟩
/-- The rest of ten by three is one. -/
theorem rem10 (w : World) : Calls Tryd.prog 61 #[.int .u64 0, .int .u64 10, .int .u64 3] w fun e w' => e = .returned (.int .u64 1) ∧ ∃ n, w' = w.drewN n := by
  go_enter Tryd.func61, Tryd.ntmps61
  go_wp2_with fail
  refine (div10 _).mono ?_
  rintro e w2 ⟨rfl, n, rfl⟩
  go_wp2_with fail
  go_ret
  exact ⟨rfl, n, rfl⟩
end Go.Proofs.YtknahehmkjaelaaDoor
