/- Numbers in groups, taken back, as plain mathematics. No conditions beyond those written. -/
import Derived.Test.YtchflkibbdfeaaaCoB
namespace Go.Proofs.Ytchflkibbdfeaaa
open Go.RowKit
set_option linter.unusedSimpArgs false
set_option linter.unusedVariables false

/-- The number in groups with which bytes begin, not above most, and what is left. -/
def gt (most : Nat) : List UInt8 → Nat → Nat → Option (Nat × List UInt8)
  | [], _, _ => none
  | c :: r, i, acc =>
    if 9 < i ∨ most / 128 ^ i < c.toNat % 128 ∨ (0 < i ∧ c.toNat = 0) then none
    else if c.toNat < 128 then some (acc + c.toNat % 128 * 128 ^ i, r) else gt most r (i + 1) (acc + c.toNat % 128 * 128 ^ i)

theorem gt_end {most : Nat} {l : List UInt8} {k acc : Nat} (h : l.length ≤ k) : gt most (l.drop k) k acc = none := by
  rw [List.drop_of_length_le h]; rfl
theorem gt_step {most : Nat} {l : List UInt8} {k acc : Nat} (h : k < l.length) : gt most (l.drop k) k acc =
    if 9 < k ∨ most / 128 ^ k < l[k].toNat % 128 ∨ (0 < k ∧ l[k].toNat = 0) then none
    else if l[k].toNat < 128 then some (acc + l[k].toNat % 128 * 128 ^ k, l.drop (k + 1)) else gt most (l.drop (k + 1)) (k + 1) (acc + l[k].toNat % 128 * 128 ^ k) := by
  rw [List.drop_eq_getElem_cons h]; rfl

theorem gt_grp (most : Nat) (hm : most < 18446744073709551616) (t : List UInt8) (m : Nat) : ∀ i acc : Nat, acc + m * 128 ^ i ≤ most → (0 < i → 1 ≤ m) → gt most (grp m ++ t) i acc = some (acc + m * 128 ^ i, t) := by
  induction m using Nat.strongRecOn with
  | _ m ih =>
    intro i acc h h1
    have hp : 1 ≤ 128 ^ i := Nat.one_le_pow _ _ (by omega)
    have hi : i ≤ 9 := by
      rcases Nat.lt_or_ge 9 i with h9 | h9
      · have hm1 := h1 (by omega)
        have : 128 ^ 10 ≤ 128 ^ i := Nat.pow_le_pow_right (by omega) h9
        have h2 : 1 * 128 ^ i ≤ m * 128 ^ i := Nat.mul_le_mul_right _ hm1
        omega
      · exact h9
    have hdiv : m ≤ most / 128 ^ i := (Nat.le_div_iff_mul_le (by omega)).2 (by omega)
    by_cases hs : m < 128
    · rw [grp_small hs]
      have e : (UInt8.ofNat m).toNat = m := by rw [UInt8.toNat_ofNat']; omega
      simp only [List.cons_append, List.nil_append, gt, e]
      rw [if_neg (by omega), if_pos hs, Nat.mod_eq_of_lt hs]
    · rw [grp_big hs]
      have e : (UInt8.ofNat (m % 128 + 128)).toNat = m % 128 + 128 := by rw [UInt8.toNat_ofNat']; omega
      simp only [List.cons_append, gt, e]
      rw [if_neg (by omega), if_neg (by omega)]
      have e2 : (m % 128 + 128) % 128 = m % 128 := by omega
      rw [e2]
      have e3 : acc + m % 128 * 128 ^ i + m / 128 * 128 ^ (i + 1) = acc + m * 128 ^ i := by
        have h5 : m = m % 128 + 128 * (m / 128) := (Nat.mod_add_div m 128).symm
        have h6 : m * 128 ^ i = m % 128 * 128 ^ i + 128 * (m / 128) * 128 ^ i := by
          rw [← Nat.add_mul, ← h5]
        have h7 : m / 128 * 128 ^ (i + 1) = 128 * (m / 128) * 128 ^ i := by
          rw [Nat.pow_succ, Nat.mul_comm (128 ^ i) 128, ← Nat.mul_assoc, Nat.mul_comm (m / 128) 128]
        omega
      rw [ih (m / 128) (by omega) (i + 1) _ (by omega) (by omega), e3]
theorem gt_grp0 (most : Nat) (hm : most < 18446744073709551616) (t : List UInt8) (m : Nat) (h : m ≤ most) : gt most (grp m ++ t) 0 0 = some (m, t) := by
  have := gt_grp most hm t m 0 0 (by omega) (by omega)
  simpa using this

theorem gt_cut (most : Nat) (m : Nat) : ∀ (i acc j : Nat), j < (grp m).length → gt most ((grp m).take j) i acc = none := by
  induction m using Nat.strongRecOn with
  | _ m ih =>
    intro i acc j hj
    cases j with
    | zero => rfl
    | succ j =>
      by_cases hs : m < 128
      · rw [grp_small hs] at hj; simp at hj
      · rw [grp_big hs] at hj ⊢
        have e : (UInt8.ofNat (m % 128 + 128)).toNat = m % 128 + 128 := by rw [UInt8.toNat_ofNat']; omega
        simp only [List.take_succ_cons, gt, e]
        split
        · rfl
        · rw [if_neg (by omega)]
          exact ih (m / 128) (by omega) _ _ j (by simpa using hj)

/-- What is taken is below the next power of two. -/
theorem gt_63 (l : List UInt8) : ∀ (i acc n : Nat) (r : List UInt8), acc < 128 ^ i → acc < 9223372036854775808 → gt 9223372036854775807 l i acc = some (n, r) → n < 9223372036854775808 := by
  induction l with
  | nil => intro i acc n r _ _ h; simp [gt] at h
  | cons c l ih =>
    intro i acc n r ha hb h
    simp only [gt] at h
    split at h
    · cases h
    · rename_i hn
      have hbd : acc + c.toNat % 128 * 128 ^ i < 9223372036854775808 ∧ acc + c.toNat % 128 * 128 ^ i < 128 ^ (i + 1) := by
        have : i = 0 ∨ i = 1 ∨ i = 2 ∨ i = 3 ∨ i = 4 ∨ i = 5 ∨ i = 6 ∨ i = 7 ∨ i = 8 ∨ i = 9 := by omega
        rcases this with rfl | rfl | rfl | rfl | rfl | rfl | rfl | rfl | rfl | rfl <;> omega
      split at h
      · simp at h; omega
      · exact ih _ _ _ _ hbd.2 hbd.1 h
theorem gt_64 (l : List UInt8) : ∀ (i acc n : Nat) (r : List UInt8), acc < 128 ^ i → acc < 18446744073709551616 → gt 18446744073709551615 l i acc = some (n, r) → n < 18446744073709551616 := by
  induction l with
  | nil => intro i acc n r _ _ h; simp [gt] at h
  | cons c l ih =>
    intro i acc n r ha hb h
    simp only [gt] at h
    split at h
    · cases h
    · rename_i hn
      have hbd : acc + c.toNat % 128 * 128 ^ i < 18446744073709551616 ∧ acc + c.toNat % 128 * 128 ^ i < 128 ^ (i + 1) := by
        have : i = 0 ∨ i = 1 ∨ i = 2 ∨ i = 3 ∨ i = 4 ∨ i = 5 ∨ i = 6 ∨ i = 7 ∨ i = 8 ∨ i = 9 := by omega
        rcases this with rfl | rfl | rfl | rfl | rfl | rfl | rfl | rfl | rfl | rfl <;> omega
      split at h
      · simp at h; omega
      · exact ih _ _ _ _ hbd.2 hbd.1 h

def num (n : Nat) : Int := if n % 2 = 0 then (n / 2 : Nat) else -((n / 2 : Nat) : Int) - 1
theorem num_zig (n : Int) : num (zig n) = n := by unfold num zig; split <;> split <;> omega
end Go.Proofs.Ytchflkibbdfeaaa
