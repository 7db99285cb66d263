/- Plain: a sum of two ratios over the common denominator, as it is answered. Conditions: those written at each theorem. -/
import Derived.Test.YtknahehmkjaelaaDoorRaJ
namespace Go.Proofs.YtknahehmkjaelaaDoor
open Go.RowKit Go.Sort
set_option linter.unusedSimpArgs false
set_option linter.unusedVariables false

theorem sum_rat {p c q e : Int} {g h neg : Bool} {n d m k S : Nat} (hc : c ≠ 0) (he : e ≠ 0) (H1 : Form p c g n d) (H2 : Form q e h m k)
    (hS : SumIs g h (n * (k / Nat.gcd d k)) (m * (d / Nat.gcd d k)) S neg) :
    let A := S / Nat.gcd (Nat.gcd d k) S
    let B := d / Nat.gcd d k * (k / Nat.gcd (Nat.gcd d k) S)
    (18446744073709551616 ≤ A ∨ 18446744073709551616 ≤ B → RatAns (p * e + q * c) (c * e) 0 0 false) ∧
    (∀ a b ok, PairAns (neg && decide (A ≠ 0)) A B a b ok → RatAns (p * e + q * c) (c * e) a b ok) := by
  intro A B
  have hce : c * e ≠ 0 := Int.mul_ne_zero hc he
  have hU : p.natAbs * e.natAbs = 0 ↔ decide (p ≠ 0) = false := by rw [Nat.mul_eq_zero]; simp; omega
  have hV : q.natAbs * c.natAbs = 0 ↔ decide (q ≠ 0) = false := by rw [Nat.mul_eq_zero]; simp; omega
  have C := add_core (decide (p < 0)) (decide (p ≠ 0)) (decide (c < 0)) (decide (q < 0)) (decide (q ≠ 0)) (decide (e < 0)) _ _ hU hV (by simp; omega) (by simp; omega) (p * e) (q * c) (mul_parts p e) (mul_parts q c)
  rw [← H1.neg, ← H2.neg] at C
  have F := sum_form (P := p.natAbs) (C := c.natAbs) (Q := q.natAbs) (E := e.natAbs) (Z := (p * e + q * c).natAbs) (by omega) (by omega) H1.num H1.den H2.num H2.den hS
    (fun h => (C.1 h).1) (fun h hl => (C.2.1 h hl).1) (fun h hl => (C.2.2 h hl).1)
  have eA : (p * e + q * c).natAbs / Nat.gcd (p * e + q * c).natAbs (c * e).natAbs = A := by rw [Int.natAbs_mul c e]; exact F.2.2.1
  have eB : (c * e).natAbs / Nat.gcd (p * e + q * c).natAbs (c * e).natAbs = B := by rw [Int.natAbs_mul c e]; exact F.2.2.2
  have hs : sgn (neg && decide (A ≠ 0)) A = sgn (decide (p * e + q * c < 0) != decide (c * e < 0)) A := by
    by_cases hA : A = 0
    · rw [hA]; simp [sgn]
    · have hZ : (p * e + q * c).natAbs ≠ 0 := fun h0 => hA (by rw [← eA, h0]; simp)
      have s2 := (mul_sign c e).2
      have z2 : decide (0 < c.natAbs * e.natAbs) = true := by simp only [decide_eq_true_iff]; exact Nat.mul_pos (by omega) (by omega)
      rw [z2, Bool.and_true] at s2
      have y3 : decide (A ≠ 0) = true := by simp [hA]
      rw [y3, Bool.and_true, s2]
      congr 1
      rcases hS with ⟨h1, h2, h3⟩ | ⟨h1, h2, h3, h4⟩ | ⟨h1, h2, h3, h4⟩
      · have := C.1 h1
        rw [h3]
        exact (this.2 (by rw [← this.1]; exact hZ)).symm
      · have := C.2.1 h1 ((F.2.1 h1).1 h2)
        rw [h4]
        exact (this.2 (by rw [← this.1]; exact hZ)).symm
      · have hl : p.natAbs * e.natAbs < q.natAbs * c.natAbs := by
          rcases Nat.lt_or_ge (p.natAbs * e.natAbs) (q.natAbs * c.natAbs) with h5 | h5
          · exact h5
          · have := (F.2.1 h1).2 h5; omega
        rw [h4]
        exact (C.2.2 h1 hl).2.symm
  constructor
  · intro hbig
    refine ⟨fun h0 => absurd h0 hce, fun _ => ?_⟩
    rw [eA, eB]
    obtain ⟨a, x, h1⟩ := ans_ex (sgn (decide (p * e + q * c < 0) != decide (c * e < 0)) A)
    obtain ⟨b, y, h2⟩ := ans_ex (B : Int)
    refine ⟨a, b, x, y, h1, h2, .inr ⟨?_, rfl, rfl, rfl⟩⟩
    rcases hbig with hb | hb
    · exact .inl ((h1.one (sgn_out hb)).2)
    · exact .inr ((h2.one (ans_out (z := (B : Int)) (by omega))).2)
  · intro a b ok ⟨a', b', x, y, h1, h2, h3⟩
    refine ⟨fun h0 => absurd h0 hce, fun _ => ⟨a', b', x, y, ?_, ?_, h3⟩⟩
    · rw [eA, ← hs]; exact h1
    · rw [eB]; exact h2
end Go.Proofs.YtknahehmkjaelaaDoor
