/- Plain numbers: a quotient of digits, bit by bit from the highest on, as the document's divide has it. Conditions: those written at each theorem. -/
import Derived.Test.YtknahehmkjaelaaDoorNuM
namespace Go.Proofs.YtknahehmkjaelaaDoor
set_option linter.unusedVariables false

/-- So many digits of a number, the lowest first, noughts above. -/
def fl (n X : Nat) : List Nat := (List.range n).map fun t => X / 65536 ^ t % 65536
theorem fl_length (n X : Nat) : (fl n X).length = n := by simp [fl]
theorem fl_low (n X : Nat) : Low (fl n X) := by
  intro d hd
  simp only [fl, List.mem_map] at hd
  obtain ⟨t, _, rfl⟩ := hd
  exact Nat.mod_lt _ (by omega)
theorem fl_succ (n X : Nat) : fl (n + 1) X = X % 65536 :: fl n (X / 65536) := by
  simp only [fl, List.range_succ_eq_map, List.map_cons, List.map_map, Nat.pow_zero, Nat.div_one]
  congr 1
  apply List.map_congr_left
  intro t _
  simp only [Function.comp, Nat.pow_succ]
  rw [Nat.mul_comm, Nat.div_div_eq_div_mul]
theorem fl_val : ∀ (n X : Nat), X < 65536 ^ n → dval (fl n X) = X
  | 0, X, h => by simp at h; subst h; rfl
  | n + 1, X, h => by
    rw [fl_succ, dval, fl_val n (X / 65536) (by rw [Nat.pow_succ] at h; omega)]
    omega
theorem fl_getD {n X t : Nat} (h : t < n) : (fl n X).getD t 0 = X / 65536 ^ t % 65536 := by
  simp [fl, List.getD_eq_getElem?_getD, h]
theorem fl_zero : ∀ n : Nat, fl n 0 = List.replicate n 0
  | 0 => rfl
  | n + 1 => by rw [fl_succ, List.replicate_succ, show 0 / 65536 = 0 by decide, fl_zero n]
theorem dg_getD (A t : Nat) : (dg A).getD t 0 = A / 65536 ^ t % 65536 := by
  induction t generalizing A with
  | zero =>
    by_cases h : A = 0
    · subst h; rfl
    · rw [dg_step h]; simp
  | succ t ih =>
    by_cases h : A = 0
    · subst h; simp [dg_zero]
    · rw [dg_step h, List.getD_cons_succ, ih, Nat.div_div_eq_div_mul, Nat.pow_succ, Nat.mul_comm 65536]
theorem pow16 (t : Nat) : 65536 ^ t = 2 ^ (16 * t) := by rw [Nat.pow_mul]
/-- A bit of a number stands in its digit. -/
theorem bit_at (A i : Nat) : A / 2 ^ i % 2 = (A / 65536 ^ (i / 16) % 65536) / 2 ^ (i % 16) % 2 := by
  have e : 2 ^ i = 65536 ^ (i / 16) * 2 ^ (i % 16) := by rw [pow16, ← Nat.pow_add, Nat.div_add_mod]
  rw [e, ← Nat.div_div_eq_div_mul]
  generalize A / 65536 ^ (i / 16) = Y
  have hr : i % 16 < 16 := Nat.mod_lt _ (by omega)
  generalize i % 16 = r at *
  have : r = 0 ∨ r = 1 ∨ r = 2 ∨ r = 3 ∨ r = 4 ∨ r = 5 ∨ r = 6 ∨ r = 7 ∨ r = 8 ∨ r = 9 ∨ r = 10 ∨ r = 11 ∨ r = 12 ∨ r = 13 ∨ r = 14 ∨ r = 15 := by omega
  rcases this with h | h | h | h | h | h | h | h | h | h | h | h | h | h | h | h <;> subst h <;> simp only [Nat.reducePow] <;> omega
theorem fl_bit {X i : Nat} (h : X % 2 ^ (i + 1) = 0) : (X + 2 ^ i) / 65536 ^ (i / 16) % 65536 = X / 65536 ^ (i / 16) % 65536 + 2 ^ (i % 16) := by
  have e : 2 ^ i = 65536 ^ (i / 16) * 2 ^ (i % 16) := by rw [pow16, ← Nat.pow_add, Nat.div_add_mod]
  obtain ⟨Y, hY⟩ : ∃ Y, X = 2 ^ (i + 1) * Y := ⟨X / 2 ^ (i + 1), by have := Nat.div_add_mod X (2 ^ (i + 1)); omega⟩
  have hp : 0 < 65536 ^ (i / 16) := Nat.pow_pos (by omega)
  have e2 : X = 65536 ^ (i / 16) * (2 ^ (i % 16) * 2 * Y) := by
    rw [hY, Nat.pow_succ, e, Nat.mul_assoc, Nat.mul_assoc, Nat.mul_assoc]
  rw [e, e2, ← Nat.mul_add, Nat.mul_div_cancel_left _ hp, Nat.mul_div_cancel_left _ hp]
  have hr : i % 16 < 16 := Nat.mod_lt _ (by omega)
  generalize i % 16 = r at *
  have : r = 0 ∨ r = 1 ∨ r = 2 ∨ r = 3 ∨ r = 4 ∨ r = 5 ∨ r = 6 ∨ r = 7 ∨ r = 8 ∨ r = 9 ∨ r = 10 ∨ r = 11 ∨ r = 12 ∨ r = 13 ∨ r = 14 ∨ r = 15 := by omega
  clear e e2 hY hp h hr
  rcases this with h | h | h | h | h | h | h | h | h | h | h | h | h | h | h | h <;> subst h <;> simp only [Nat.reducePow, Nat.reduceMul] <;> omega
theorem fl_other {X i t : Nat} (h : X % 2 ^ (i + 1) = 0) (ht : t ≠ i / 16) : (X + 2 ^ i) / 65536 ^ t % 65536 = X / 65536 ^ t % 65536 := by
  obtain ⟨Y, hY⟩ : ∃ Y, X = 2 ^ (i + 1) * Y := ⟨X / 2 ^ (i + 1), by have := Nat.div_add_mod X (2 ^ (i + 1)); omega⟩
  rcases Nat.lt_or_ge t (i / 16) with h1 | h1
  · have e : 2 ^ i = 65536 ^ t * (65536 * 2 ^ (i - 16 * (t + 1))) := by
      rw [← Nat.mul_assoc, ← Nat.pow_succ, pow16, ← Nat.pow_add]; congr 1; omega
    have e2 : X = 65536 ^ t * (65536 * (2 ^ (i - 16 * (t + 1)) * 2 * Y)) := by
      rw [hY, Nat.pow_succ, e]; simp only [Nat.mul_assoc]
    have hp : 0 < 65536 ^ t := Nat.pow_pos (by omega)
    rw [e, e2, ← Nat.mul_add, Nat.mul_div_cancel_left _ hp, Nat.mul_div_cancel_left _ hp]
    omega
  · have e : 65536 ^ t = 2 ^ (i + 1) * 2 ^ (16 * t - (i + 1)) := by
      rw [pow16, ← Nat.pow_add]; congr 1; omega
    have hp : 0 < 2 ^ (i + 1) := Nat.two_pow_pos _
    have e3 : (X + 2 ^ i) / 2 ^ (i + 1) = X / 2 ^ (i + 1) := by
      rw [hY, Nat.mul_add_div hp, Nat.mul_div_cancel_left _ hp, Nat.div_eq_of_lt (by rw [Nat.pow_succ]; have := Nat.two_pow_pos i; omega), Nat.add_zero]
    rw [e, ← Nat.div_div_eq_div_mul, ← Nat.div_div_eq_div_mul, e3]
theorem fl_set {n X i : Nat} (h : X % 2 ^ (i + 1) = 0) (hi : i / 16 < n) :
    (fl n X).set (i / 16) ((fl n X).getD (i / 16) 0 + 2 ^ (i % 16)) = fl n (X + 2 ^ i) ∧ (fl n X).getD (i / 16) 0 + 2 ^ (i % 16) < 65536 := by
  have h1 := fl_bit h
  rw [fl_getD hi, ← h1]
  refine ⟨?_, Nat.mod_lt _ (by omega)⟩
  apply List.ext_getElem
  · simp [fl_length]
  · intro t h2 h3
    rw [List.getElem_set]
    split
    · rename_i e; subst e; simp [fl]
    · rename_i e
      simp only [fl, List.getElem_map, List.getElem_range]
      exact (fl_other h (fun e' => e e'.symm)).symm
/-- What stands at a round's head: the digits above were divided. -/
theorem div_bit {A B i : Nat} (hB : 0 < B) :
    (∀ M, M = 2 * (A / 2 ^ (i + 1) % B) + A / 2 ^ i % 2 →
      (B ≤ M → A / 2 ^ i % B = M - B ∧ A / 2 ^ i / B * 2 ^ i = A / 2 ^ (i + 1) / B * 2 ^ (i + 1) + 2 ^ i) ∧
      (M < B → A / 2 ^ i % B = M ∧ A / 2 ^ i / B * 2 ^ i = A / 2 ^ (i + 1) / B * 2 ^ (i + 1))) := by
  intro M hM
  have e1 : A / 2 ^ (i + 1) = A / 2 ^ i / 2 := by rw [Nat.pow_succ, Nat.div_div_eq_div_mul]
  rw [e1] at hM ⊢
  generalize A / 2 ^ i = Y at *
  have hQ := Nat.div_add_mod (Y / 2) B
  have hL := Nat.mod_lt (Y / 2) hB
  generalize Y / 2 / B = Q at *
  generalize Y / 2 % B = L at *
  have hY : Y = B * (2 * Q) + M := by
    have : B * (2 * Q) = 2 * (B * Q) := by rw [Nat.mul_left_comm]
    rw [this]; omega
  have p2 : 2 ^ (i + 1) = 2 * 2 ^ i := by rw [Nat.pow_succ, Nat.mul_comm]
  constructor
  · intro h
    have e : Y = B * (2 * Q + 1) + (M - B) := by rw [Nat.mul_add, Nat.mul_one]; omega
    have hd : Y / B = 2 * Q + 1 := by rw [e, Nat.mul_add_div hB, Nat.div_eq_of_lt (by omega), Nat.add_zero]
    have hm : Y % B = M - B := by rw [e, Nat.mul_add_mod, Nat.mod_eq_of_lt (by omega)]
    refine ⟨hm, ?_⟩
    rw [hd, p2, Nat.add_mul, Nat.one_mul, ← Nat.mul_assoc, Nat.mul_comm Q 2]
  · intro h
    have hd : Y / B = 2 * Q := by rw [hY, Nat.mul_add_div hB, Nat.div_eq_of_lt h, Nat.add_zero]
    have hm : Y % B = M := by rw [hY, Nat.mul_add_mod, Nat.mod_eq_of_lt h]
    refine ⟨hm, ?_⟩
    rw [hd, p2, ← Nat.mul_assoc, Nat.mul_comm Q 2]
/-- The state of the division with i bits to come: the digits of the quotient, the rest. -/
structure DivRel (A B n i : Nat) (O : List Nat) (L : Nat) : Prop where
  row : O = fl n (A / 2 ^ i / B * 2 ^ i)
  rest : L = A / 2 ^ i % B
theorem DivRel.start {A B : Nat} (hB : 0 < B) : DivRel A B (dg A).length (16 * (dg A).length) (List.replicate (dg A).length 0) 0 := by
  have h := dval_lt (dg_low A)
  rw [dg_val, pow16] at h
  have e : A / 2 ^ (16 * (dg A).length) = 0 := Nat.div_eq_of_lt h
  refine ⟨?_, ?_⟩
  · rw [e, Nat.zero_div, Nat.zero_mul, fl_zero]
  · rw [e, Nat.zero_mod]
theorem DivRel.less {A B n i : Nat} {O : List Nat} {L M : Nat} (hB : 0 < B) (h : DivRel A B n (i + 1) O L) (hM : M = 2 * L + A / 2 ^ i % 2) (hlt : M < B) : DivRel A B n i O M := by
  have := (div_bit (i := i) hB M (by rw [hM, h.rest])).2 hlt
  exact ⟨by rw [h.row, this.2], this.1.symm⟩
theorem DivRel.more {A B n i : Nat} {O : List Nat} {L M : Nat} (hB : 0 < B) (h : DivRel A B n (i + 1) O L) (hi : i / 16 < n) (hM : M = 2 * L + A / 2 ^ i % 2) (hle : B ≤ M) :
    DivRel A B n i (O.set (i / 16) (O.getD (i / 16) 0 + 2 ^ (i % 16))) (M - B) ∧ O.getD (i / 16) 0 + 2 ^ (i % 16) < 65536 := by
  have := (div_bit (i := i) hB M (by rw [hM, h.rest])).1 hle
  have hm : A / 2 ^ (i + 1) / B * 2 ^ (i + 1) % 2 ^ (i + 1) = 0 := Nat.mul_mod_left _ _
  have hs := fl_set (n := n) hm hi
  rw [← h.row] at hs
  exact ⟨⟨by rw [hs.1, this.2], this.1.symm⟩, hs.2⟩
theorem DivRel.done {A B : Nat} {O : List Nat} {L : Nat} (h : DivRel A B (dg A).length 0 O L) : Low O ∧ O.length = (dg A).length ∧ dval O = A / B ∧ L = A % B := by
  have h1 := h.row
  have h2 := h.rest
  simp only [Nat.pow_zero, Nat.div_one, Nat.mul_one] at h1 h2
  have hl := dval_lt (dg_low A)
  rw [dg_val] at hl
  refine ⟨h1 ▸ fl_low _ _, by rw [h1, fl_length], ?_, h2⟩
  rw [h1, fl_val _ _ (Nat.lt_of_le_of_lt (Nat.div_le_self _ _) hl)]
theorem DivRel.bound {A B n i : Nat} {O : List Nat} {L : Nat} (hB : 0 < B) (h : DivRel A B n i O L) : L < B ∧ Low O ∧ O.length = n :=
  ⟨h.rest ▸ Nat.mod_lt _ hB, h.row ▸ fl_low _ _, by rw [h.row, fl_length]⟩
end Go.Proofs.YtknahehmkjaelaaDoor
