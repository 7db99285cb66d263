/- Plain numbers: a quotient rounded in the four ways. Conditions: those written at each theorem. -/
import Derived.Test.YtknahehmkjaelaaDoorNuV
import Derived.Test.YtknahehmkjaelaaDoorNuQ
namespace Go.Proofs.YtknahehmkjaelaaDoor
open Go.RowKit Go.Sort
set_option linter.unusedSimpArgs false
set_option linter.unusedVariables false

/-- The quotient's size, rounded. -/
def upN (q r y : Nat) (neg : Bool) (mode : Int) : Nat := q + if awayB q r y neg mode then 1 else 0
/-- A number of that size, with its sign. -/
def sgn (neg : Bool) (n : Nat) : Int := if neg then -(n : Int) else n
/-- A quotient of whole numbers, rounded. -/
def rq (p c : Int) (mode : Int) : Int := sgn (decide (p < 0) != decide (c < 0)) (upN (p.natAbs / c.natAbs) (p.natAbs % c.natAbs) c.natAbs (decide (p < 0) != decide (c < 0)) mode)
theorem away_zero {y : Nat} (hy : 0 < y) (q : Nat) (neg : Bool) (mode : Int) : awayB q 0 y neg mode = false := by
  unfold awayB
  split
  · simp
  · split
    · simp; omega
    · split
      · simp; omega
      · rfl
/-- The sign of a product of nought counts for nothing. -/
theorem rq_of (a b c : Int) (mode : Int) (hc : c ≠ 0) :
    rq (a * b) c mode = sgn ((decide (a < 0) != decide (b < 0)) != decide (c < 0)) (upN (a.natAbs * b.natAbs / c.natAbs) (a.natAbs * b.natAbs % c.natAbs) c.natAbs ((decide (a < 0) != decide (b < 0)) != decide (c < 0)) mode) := by
  unfold rq
  have h := mul_sign a b
  rw [h.1, h.2]
  rcases Nat.eq_zero_or_pos (a.natAbs * b.natAbs) with h0 | h0
  · have hy : 0 < c.natAbs := by omega
    rw [h0]
    simp [upN, away_zero hy, sgn]
  · simp [h0]
/-- The four ways lie within one of one another, rounded down is the least. -/
theorem rq_near (p c : Int) (hc : c ≠ 0) : ∃ z, rq p c 1 = z ∧ (rq p c 0 = z ∨ rq p c 0 = z + 1) ∧ (rq p c 2 = z ∨ rq p c 2 = z + 1) ∧ (rq p c 3 = z ∨ rq p c 3 = z + 1) := by
  unfold rq
  generalize p.natAbs / c.natAbs = q
  generalize hr : p.natAbs % c.natAbs = r
  generalize hy : c.natAbs = y at *
  generalize (decide (p < 0) != decide (c < 0)) = g
  have h0 : awayB q r y g 0 = false := by simp [awayB]
  have h1 : awayB q r y g 1 = (g && decide (r ≠ 0)) := by simp [awayB]
  have k : ∀ mode, upN q r y g mode = q ∨ upN q r y g mode = q + 1 := fun mode => by unfold upN; split <;> simp
  have k0 : upN q r y g 0 = q := by simp [upN, h0]
  have k2 := k 2
  have k3 := k 3
  have k1 : upN q r y g 1 = q + if g && decide (r ≠ 0) then 1 else 0 := by simp [upN, h1]
  rw [k0, k1]
  generalize hu2 : upN q r y g 2 = u2 at *
  generalize hu3 : upN q r y g 3 = u3 at *
  cases g
  · refine ⟨(q : Int), ?_, ?_, ?_, ?_⟩ <;> simp [sgn] <;> omega
  · by_cases hz : r = 0
    · have hy0 : 0 < y := by omega
      subst hz
      simp only [upN, away_zero hy0] at hu2 hu3
      simp at hu2 hu3
      refine ⟨-(q : Int), ?_, ?_, ?_, ?_⟩ <;> simp [sgn] <;> omega
    · refine ⟨-((q + 1 : Nat) : Int), ?_, ?_, ?_, ?_⟩ <;> simp [sgn, hz] <;> omega
end Go.Proofs.YtknahehmkjaelaaDoor
