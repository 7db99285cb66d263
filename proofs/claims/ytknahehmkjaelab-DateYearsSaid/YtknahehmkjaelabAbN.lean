/- What the Go functions size, signed of package num answer. Conditions: those written at each theorem. -/
import Derived.Test.YtknahehmkjaelabNuF
namespace Go.Proofs.Ytknahehmkjaelab.Nu
open Go.RowKit Go.Sort
set_option linter.unusedSimpArgs false
set_option linter.unusedVariables false

theorem size_nat (n : Nat) (h : n ≤ 9223372036854775807) (w : World) :
    Calls Try.prog 67 #[.int .i64 n] w fun e w' => e = .returned (.int .u64 n) ∧ w = w' := by
  have h0 : ¬ (n : Int) < 0 := by omega
  go_enter Try.func67, Try.ntmps67
  go_wp2
  go_ret
  exact ⟨rfl, rfl⟩
theorem size_neg (n : Nat) (h1 : 1 ≤ n) (h : n ≤ 9223372036854775808) (w : World) :
    Calls Try.prog 67 #[.int .i64 (-(n : Int))] w fun e w' => e = .returned (.int .u64 n) ∧ w = w' := by
  obtain ⟨m, hm⟩ : ∃ m : Int, m = -(n : Int) := ⟨_, rfl⟩
  have h0 : m < 0 := by omega
  have y1 : IntKind.u64.wrap m = m + 18446744073709551616 := by rw [IntKind.wrap_u64]; omega
  have y2 : IntKind.u64.wrap (-(m + 18446744073709551616)) = (n : Int) := by rw [IntKind.wrap_u64]; omega
  have hm1 : -9223372036854775808 ≤ m := by omega
  rw [← hm]
  clear hm
  go_enter Try.func67, Try.ntmps67
  go_wp2
  go_ret
  exact ⟨rfl, rfl⟩
theorem size_any (a : Int) (h0 : -9223372036854775808 ≤ a) (h1 : a ≤ 9223372036854775807) (w : World) :
    Calls Try.prog 67 #[.int .i64 a] w fun e w' => e = .returned (.int .u64 a.natAbs) ∧ w = w' := by
  rcases Int.lt_or_le a 0 with h | h
  · have := size_neg a.natAbs (by omega) (by omega) w
    rwa [show -(a.natAbs : Int) = a by omega] at this
  · have := size_nat a.natAbs (by omega) w
    rw [show (a.natAbs : Int) = a by omega] at this ⊢
    exact this
theorem signed_pos (n : Nat) (h : n ≤ 9223372036854775807) (w : World) :
    Calls Try.prog 69 #[.bool false, .int .u64 n] w fun e w' => e = .returned (.tuple #[.int .i64 n, .bool true]) ∧ w = w' := by
  have h0 : ¬ (9223372036854775807 : Int) < (n : Int) := by omega
  go_enter Try.func69, Try.ntmps69
  go_wp2
  all_goals go_ret2
  all_goals exact ⟨rfl, rfl⟩
theorem signed_great (n : Nat) (h : 9223372036854775807 < n) (w : World) :
    Calls Try.prog 69 #[.bool false, .int .u64 n] w fun e w' => e = .returned (.tuple #[.int .i64 0, .bool false]) ∧ w = w' := by
  have h0 : (9223372036854775807 : Int) < (n : Int) := by omega
  go_enter Try.func69, Try.ntmps69
  go_wp2
  all_goals go_ret2
  all_goals exact ⟨rfl, rfl⟩
theorem signed_low (n : Nat) (h : 9223372036854775808 < n) (w : World) :
    Calls Try.prog 69 #[.bool true, .int .u64 n] w fun e w' => e = .returned (.tuple #[.int .i64 0, .bool false]) ∧ w = w' := by
  have h0 : ¬ (n : Int) ≤ (9223372036854775808 : Int) := by omega
  go_enter Try.func69, Try.ntmps69
  go_wp2
  all_goals go_ret2
  all_goals exact ⟨rfl, rfl⟩
theorem signed_neg (n : Nat) (h : n ≤ 9223372036854775808) (w : World) :
    Calls Try.prog 69 #[.bool true, .int .u64 n] w fun e w' => e = .returned (.tuple #[.int .i64 (-(n : Int)), .bool true]) ∧ w = w' := by
  have h0 : (n : Int) ≤ (9223372036854775808 : Int) := by omega
  have y2 : IntKind.i64.wrap (IntKind.u64.wrap (-(n : Int))) = -(n : Int) := by rw [IntKind.wrap_u64, IntKind.wrap_i64]; omega
  go_enter Try.func69, Try.ntmps69
  go_wp2
  all_goals go_ret2
  all_goals exact ⟨rfl, rfl⟩
theorem ans_in {z : Int} (h0 : -9223372036854775808 ≤ z) (h1 : z ≤ 9223372036854775807) : Ans z z true := ⟨fun _ => ⟨rfl, rfl⟩, fun h => absurd ⟨h0, h1⟩ h⟩
theorem ans_out {z : Int} (h : z < -9223372036854775808 ∨ 9223372036854775807 < z) : Ans z 0 false := ⟨fun h' => by omega, fun _ => ⟨rfl, rfl⟩⟩
/-- Does a function answer the number, where it fits? -/
def GivesAns (z : Int) (w : World) (e : Ending) (w' : World) : Prop := ∃ n ok, e = .returned (.tuple #[.int .i64 n, .bool ok]) ∧ Ans z n ok ∧ Below w.heap.size w w'
theorem signed_ans (g : Bool) (n : Nat) (w : World) : Calls Try.prog 69 #[.bool g, .int .u64 n] w (GivesAns (if g then -(n : Int) else n) w) := by
  cases g
  · rcases Nat.lt_or_ge 9223372036854775807 n with h | h
    · exact (signed_great n h w).mono fun e w' ⟨h1, h2⟩ => ⟨_, _, h1, ans_out (by simp; omega), h2 ▸ Below.refl _ _⟩
    · exact (signed_pos n h w).mono fun e w' ⟨h1, h2⟩ => ⟨_, _, h1, ans_in (by simp <;> omega) (by simp <;> omega), h2 ▸ Below.refl _ _⟩
  · rcases Nat.lt_or_ge 9223372036854775808 n with h | h
    · exact (signed_low n h w).mono fun e w' ⟨h1, h2⟩ => ⟨_, _, h1, ans_out (by simp; omega), h2 ▸ Below.refl _ _⟩
    · exact (signed_neg n h w).mono fun e w' ⟨h1, h2⟩ => ⟨_, _, h1, ans_in (by simp <;> omega) (by simp <;> omega), h2 ▸ Below.refl _ _⟩
/-- A number of that size, with its sign. -/
def sgn (neg : Bool) (n : Nat) : Int := if neg then -(n : Int) else n
theorem sgn_big (g : Bool) (n : Nat) : (sgn g n).natAbs = n ∧ decide (sgn g n < 0) = (g && decide (0 < n)) := by
  unfold sgn
  cases g
  · refine ⟨by simp, ?_⟩
    simp
  · refine ⟨by simp, ?_⟩
    rw [Bool.eq_iff_iff]; simp
end Go.Proofs.Ytknahehmkjaelab.Nu
