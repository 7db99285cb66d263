/- Plain numbers: one digit of a quotient by the greatest two digits (D. Knuth, Algorithm D), as math/bits.Div64 has it. Conditions: those written at each theorem. -/
import Derived.Test.YtknahehmkjaelaaDoorHelp
namespace Go.Proofs.YtknahehmkjaelaaDoor
set_option linter.unusedVariables false

/-- The guess is not too small. -/
theorem kn_guess {B u y1 y0 v q : Nat} (hv : v < B) (hq : q * (y1 * B + y0) ≤ u * B + v) : q * y1 ≤ u := by
  rcases Nat.lt_or_ge u (q * y1) with h | h
  · have h1 : (u + 1) * B ≤ q * y1 * B := Nat.mul_le_mul_right B h
    have h2 : q * (y1 * B + y0) = q * y1 * B + q * y0 := by rw [Nat.mul_add, Nat.mul_assoc]
    rw [Nat.add_mul, Nat.one_mul] at h1
    rw [h2] at hq
    generalize q * y1 * B = m at *
    generalize u * B = n at *
    generalize q * y0 = k at *
    omega
  · exact h
theorem kn_parts {B u y1 y0 v a r : Nat} (h1 : a * y1 + r = u) : a * (y1 * B + y0) + B * r = u * B + a * y0 := by
  rw [← h1, Nat.mul_add, Nat.add_mul, Nat.mul_assoc, Nat.mul_comm r B]
  generalize a * (y1 * B) = m
  generalize a * y0 = n
  generalize B * r = k
  omega
/-- The loop ends: the guess is not too great. -/
theorem kn_exit {B u y1 y0 v a r : Nat} (h1 : a * y1 + r = u) (h2 : a * y0 ≤ B * r + v) : a * (y1 * B + y0) ≤ u * B + v := by
  have := kn_parts (B := B) (y0 := y0) (v := v) h1
  generalize a * (y1 * B + y0) = m at *
  generalize a * y0 = n at *
  generalize B * r = k at *
  omega
/-- The loop goes on: the guess is too great. -/
theorem kn_more {B u y1 y0 v a r : Nat} (h1 : a * y1 + r = u) (h2 : B * r + v < a * y0) : u * B + v < a * (y1 * B + y0) := by
  have := kn_parts (B := B) (y0 := y0) (v := v) h1
  generalize a * (y1 * B + y0) = m at *
  generalize a * y0 = n at *
  generalize B * r = k at *
  omega
/-- The quotient is one digit. -/
theorem kn_digit {B u y v q : Nat} (hu : u < y) (hv : v < B) (hq : q * y ≤ u * B + v) : q < B := by
  rcases Nat.lt_or_ge q B with h | h
  · exact h
  · have h1 : B * y ≤ q * y := Nat.mul_le_mul_right y h
    have h2 : (u + 1) * B ≤ y * B := Nat.mul_le_mul_right B hu
    rw [Nat.add_mul, Nat.one_mul, Nat.mul_comm y B] at h2
    generalize q * y = m at *
    generalize B * y = n at *
    generalize u * B = k at *
    omega
/-- The first guess is at most one beyond a digit. -/
theorem kn_first {B u y1 y0 : Nat} (hy : B ≤ 2 * y1) (hy0 : y0 < B) (hB : 0 < B) (hu : u < y1 * B + y0) : u / y1 ≤ B + 1 := by
  have h0 : 0 < y1 := by omega
  have h1 : u < (B + 1 + 1) * y1 := by
    have e : (B + 1 + 1) * y1 = y1 * B + y1 + y1 := by rw [Nat.add_mul, Nat.add_mul, Nat.one_mul, Nat.mul_comm B y1]
    rw [e]
    generalize y1 * B = m at *
    omega
  have := (Nat.div_lt_iff_lt_mul h0).2 h1
  omega
/-- The state of the loop: the guess a, its rest r. -/
structure Kn (B u y1 y0 v a r : Nat) : Prop where
  eq : a * y1 + r = u
  ge : ∀ q, q * (y1 * B + y0) ≤ u * B + v → q ≤ a
  top : a ≤ B + 1
theorem Kn.start {B u y1 y0 v : Nat} (hy : B ≤ 2 * y1) (hy0 : y0 < B) (hB : 0 < B) (hv : v < B) (hu : u < y1 * B + y0) : Kn B u y1 y0 v (u / y1) (u - u / y1 * y1) := by
  have h0 : 0 < y1 := by omega
  refine ⟨?_, fun q hq => (Nat.le_div_iff_mul_le h0).2 (kn_guess hv hq), kn_first hy hy0 hB hu⟩
  have := Nat.div_mul_le_self u y1
  omega
/-- A round: the condition holds, the guess comes down by one. -/
theorem Kn.step {B u y1 y0 v a r : Nat} (h : Kn B u y1 y0 v a r) (hB : 0 < B) (hv : v < B) (hu : u < y1 * B + y0) (hc : B ≤ a ∨ B * r + v < a * y0) : 1 ≤ a ∧ Kn B u y1 y0 v (a - 1) (r + y1) ∧ a - 1 ≤ B := by
  have ha : 1 ≤ a := by
    rcases hc with hc | hc
    · omega
    · rcases Nat.eq_zero_or_pos a with e | e
      · subst e; simp at hc
      · exact e
  refine ⟨ha, ⟨?_, fun q hq => ?_, by have := h.top; omega⟩, by have := h.top; omega⟩
  · have e := h.eq
    obtain ⟨b, rfl⟩ : ∃ b, a = b + 1 := ⟨a - 1, by omega⟩
    rw [Nat.add_mul, Nat.one_mul] at e
    simp only [Nat.add_sub_cancel]
    omega
  · have h1 := h.ge q hq
    rcases Nat.lt_or_ge q a with h2 | h2
    · omega
    · have e : q = a := by omega
      subst e
      rcases hc with hc | hc
      · have := kn_digit hu hv hq; omega
      · have := kn_more h.eq hc; omega
/-- The end: the guess is the quotient. -/
theorem Kn.done {B u y1 y0 v a r : Nat} (h : Kn B u y1 y0 v a r) (h0 : 0 < y1 * B + y0) (hc : a * y0 ≤ B * r + v) : a = (u * B + v) / (y1 * B + y0) := by
  have h1 := kn_exit h.eq hc
  have h2 := (Nat.le_div_iff_mul_le h0).2 h1
  have h3 := h.ge _ (Nat.div_mul_le_self _ _)
  omega
/-- The break: the rest has more than a digit. -/
theorem Kn.broke {B u y1 y0 v a r : Nat} (h : Kn B u y1 y0 v a r) (h0 : 0 < y1 * B + y0) (ha : a ≤ B) (hy0 : y0 < B) (hr : B ≤ r) : a = (u * B + v) / (y1 * B + y0) := by
  refine h.done h0 ?_
  have h1 : a * y0 ≤ B * B := Nat.mul_le_mul ha (by omega)
  have h2 : B * B ≤ B * r := Nat.mul_le_mul_left B hr
  omega
/-- Two digits, one after the other. -/
theorem kn_two {B u v1 v0 y : Nat} (hy : 0 < y) :
    ((u * B + v1) * B + v0) / y = (u * B + v1) / y * B + ((u * B + v1) % y * B + v0) / y ∧ ((u * B + v1) * B + v0) % y = ((u * B + v1) % y * B + v0) % y := by
  generalize u * B + v1 = m
  have e : m * B + v0 = (m % y * B + v0) + y * (m / y * B) := by
    have h := Nat.div_add_mod m y
    have h2 : m * B = (y * (m / y) + m % y) * B := by rw [h]
    rw [h2, Nat.add_mul, Nat.mul_assoc]
    omega
  rw [e]
  exact ⟨by rw [Nat.add_mul_div_left _ _ hy, Nat.add_comm], by rw [Nat.add_mul_mod_self_left]⟩
/-- Both numbers shifted: the same quotient, the rest shifted. -/
theorem kn_shift {n y k : Nat} (hk : 0 < k) : n * k / (y * k) = n / y ∧ n * k % (y * k) / k = n % y := by
  refine ⟨Nat.mul_div_mul_right _ _ hk, ?_⟩
  rw [Nat.mul_mod_mul_right, Nat.mul_div_cancel _ hk]
/-- The rest behind a digit, reckoned in 64 bits. -/
theorem kn_wrap {u v y q : Nat} (hy : 0 < y) (hy' : y < 18446744073709551616) (hq : q = (u * 4294967296 + v) / y) :
    IntKind.u64.wrap (IntKind.u64.wrap (IntKind.u64.wrap ((u : Int) * 4294967296) + (v : Int)) - IntKind.u64.wrap ((q : Int) * (y : Int))) = (((u * 4294967296 + v) % y : Nat) : Int) := by
  have e : (q : Int) * (y : Int) = ((q * y : Nat) : Int) := by rw [Int.natCast_mul]
  have h := Nat.div_add_mod (u * 4294967296 + v) y
  have hr := Nat.mod_lt (u * 4294967296 + v) hy
  rw [← hq, Nat.mul_comm y q] at h
  rw [e]
  simp only [IntKind.wrap_u64]
  generalize q * y = m at *
  generalize (u * 4294967296 + v) % y = r at *
  omega
/-- The number of two words, shifted: its upper word, its lower word. -/
theorem kn_in {hi lo s : Nat} (hs : s ≤ 63) (hl : lo < 2 ^ 64) :
    (hi * 2 ^ s) ||| (lo / 2 ^ (64 - s)) = (hi * 2 ^ 64 + lo) * 2 ^ s / 2 ^ 64 ∧ lo * 2 ^ s % 2 ^ 64 = (hi * 2 ^ 64 + lo) * 2 ^ s % 2 ^ 64 := by
  have e : (2 : Nat) ^ 64 = 2 ^ (64 - s) * 2 ^ s := by rw [← Nat.pow_add]; congr 1; omega
  have hb : lo / 2 ^ (64 - s) < 2 ^ s := by
    rw [Nat.div_lt_iff_lt_mul (Nat.two_pow_pos _), Nat.mul_comm, ← e]; exact hl
  have h1 : (hi * 2 ^ 64 + lo) * 2 ^ s = lo * 2 ^ s + 2 ^ 64 * (hi * 2 ^ s) := by
    rw [Nat.add_mul, Nat.mul_assoc, Nat.mul_comm (2 ^ 64) (2 ^ s), ← Nat.mul_assoc, Nat.mul_comm _ (2 ^ 64), Nat.add_comm]
  have h2 : lo * 2 ^ s / 2 ^ 64 = lo / 2 ^ (64 - s) := by rw [e, Nat.mul_div_mul_right _ _ (Nat.two_pow_pos _)]
  rw [h1, Nat.add_mul_div_left _ _ (Nat.two_pow_pos _), Nat.add_mul_mod_self_left, h2]
  refine ⟨?_, rfl⟩
  rw [Nat.mul_comm hi, ← Nat.two_pow_add_eq_or_of_lt hb, Nat.add_comm]
/-- The whole: two digits of the shifted numbers are the quotient, the rest shifted back is the rest. -/
theorem kn_all {n y k : Nat} (hy : 0 < y) (hk : 0 < k) :
    (n * k / 18446744073709551616 * 4294967296 + n * k % 18446744073709551616 / 4294967296) / (y * k) * 4294967296 + ((n * k / 18446744073709551616 * 4294967296 + n * k % 18446744073709551616 / 4294967296) % (y * k) * 4294967296 + n * k % 18446744073709551616 % 4294967296) / (y * k) = n / y ∧
    ((n * k / 18446744073709551616 * 4294967296 + n * k % 18446744073709551616 / 4294967296) % (y * k) * 4294967296 + n * k % 18446744073709551616 % 4294967296) % (y * k) / k = n % y := by
  have hyk : 0 < y * k := Nat.mul_pos hy hk
  have h := kn_two (B := 4294967296) (u := n * k / 18446744073709551616) (v1 := n * k % 18446744073709551616 / 4294967296) (v0 := n * k % 18446744073709551616 % 4294967296) hyk
  have e : (n * k / 18446744073709551616 * 4294967296 + n * k % 18446744073709551616 / 4294967296) * 4294967296 + n * k % 18446744073709551616 % 4294967296 = n * k := by
    generalize n * k = m
    omega
  rw [e] at h
  rw [← h.1, ← h.2]
  exact kn_shift hk
end Go.Proofs.YtknahehmkjaelaaDoor
