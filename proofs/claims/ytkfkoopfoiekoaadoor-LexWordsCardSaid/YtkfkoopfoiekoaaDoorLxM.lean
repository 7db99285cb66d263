/- The lexer's numbers are those of the document. Plain. Conditions: those written at each theorem. -/
import Derived.Test.YtkfkoopfoiekoaaDoorLxL
import Derived.Test.YtkfkoopfoiekoaaDoorAmP
namespace Go.Proofs.YtkfkoopfoiekoaaDoor
open Go.RowKit Go.PlainAid
set_option linter.unusedVariables false
set_option linter.unusedSimpArgs false
theorem pu_ge (M : Nat) : ∀ (l : List UInt8) (a n : Nat), Lib.parseUintM M a l = .ok n → a ≤ n
  | [], a, n, h => by simp [Lib.parseUintM] at h; omega
  | c :: l, a, n, h => by
    unfold Lib.parseUintM at h
    split at h
    · split at h
      · cases h
      · split at h
        · cases h
        · have := pu_ge M l _ n h
          omega
    · cases h
theorem read_pu : ∀ (l : List UInt8) (a n : Nat), a ≤ 9223372036854775808 → (readL l a = some n ↔ Lib.parseUintM 18446744073709551615 a l = .ok n ∧ n ≤ 9223372036854775808)
  | [], a, n, ha => by
    simp [readL, Lib.parseUintM]
    omega
  | c :: l, a, n, ha => by
    unfold readL Lib.parseUintM
    by_cases hc : 48 ≤ c.toNat ∧ c.toNat ≤ 57
    · by_cases hb : (9223372036854775808 - (c.toNat - 48)) / 10 < a
      · rw [if_pos (by omega), if_pos hc]
        constructor
        · intro h; cases h
        · rintro ⟨h, hn⟩
          exfalso
          split at h
          · cases h
          · split at h
            · cases h
            · have := pu_ge _ l _ n h
              omega
      · rw [if_neg (by omega), if_pos hc, if_neg (by omega), if_neg (by omega), show a * 10 + (c.toNat - 48) = 10 * a + (c.toNat - 48) by omega]
        exact read_pu l _ n (by omega)
    · rw [if_pos (by omega), if_neg hc]
      constructor
      · intro h; cases h
      · rintro ⟨h, _⟩; cases h
theorem numT_is {c : UInt8} {r : List UInt8} (hd : isD (c.toNat : Int) = true) : numT (c :: r) = parseW false (c :: r) [] false 0 := by
  have hc : 48 ≤ c.toNat ∧ c.toNat ≤ 57 := by simp [isD] at hd; omega
  have hB : Lib.parseUintB 64 (c :: r) = Lib.parseUintM 18446744073709551615 0 (c :: r) := by unfold Lib.parseUintB; rw [if_neg (by simp)]
  have hI : ∀ u, Lib.parseUintM 18446744073709551615 0 (c :: r) = .ok u → Lib.parseIntB 64 (c :: r) = if 9223372036854775808 ≤ u then .range else .ok (u : Int) := fun u hu => by
    simp only [Lib.parseIntB]
    rw [if_neg (by omega), hB, hu]
    simp only [show ¬ c.toNat = 45 by omega, not_false_eq_true, true_and, false_and, if_false]
  have hN : (∀ u, Lib.parseUintM 18446744073709551615 0 (c :: r) ≠ .ok u) → ∀ v, Lib.parseIntB 64 (c :: r) ≠ .ok v := fun hu v hv => by
    simp only [Lib.parseIntB] at hv
    rw [if_neg (by omega), hB] at hv
    split at hv
    · cases hv
    · cases hv
    · rename_i u h
      exact hu u h
  have hW : parseW false (c :: r) [] false 0 = if (c :: r).head? = some 48 ∧ 1 < (c :: r).length then none else match readL (c :: r) 0 with
    | none => none
    | some a => if a ≤ 9223372036854775807 then some (a : Int) else none := by
    unfold parseW
    rw [if_neg (by simp)]
    cases readL (c :: r) 0 with
    | none => rfl
    | some a => simp only [readL, Bool.false_eq_true, false_and, if_false]
  rw [hW]
  by_cases h0 : (c :: r).head? = some 48 ∧ 1 < (c :: r).length
  · rw [if_pos h0]
    unfold numT
    split
    · rw [if_pos h0]
    · rfl
  · rw [if_neg h0]
    cases hr : readL (c :: r) 0 with
    | some a =>
      obtain ⟨h1, h2⟩ := (read_pu (c :: r) 0 a (by omega)).1 hr
      unfold numT
      rw [hI a h1]
      by_cases h3 : 9223372036854775808 ≤ a
      · rw [if_pos h3]
        simp only
        rw [if_neg (by omega)]
      · rw [if_neg h3]
        simp only
        rw [if_neg h0, if_pos (by omega)]
    | none =>
      simp only
      unfold numT
      split
      · rename_i v hv
        exfalso
        by_cases hu : ∃ u, Lib.parseUintM 18446744073709551615 0 (c :: r) = .ok u
        · obtain ⟨u, hu⟩ := hu
          rw [hI u hu] at hv
          by_cases h3 : 9223372036854775808 ≤ u
          · rw [if_pos h3] at hv; cases hv
          · have := (read_pu (c :: r) 0 u (by omega)).2 ⟨hu, by omega⟩
            rw [hr] at this
            cases this
        · exact hN (fun u h => hu ⟨u, h⟩) v hv
      · rfl
/-- A number's text is just that. -/
theorem numT_txt {c : UInt8} {r : List UInt8} (hd : isD (c.toNat : Int) = true) (hF : ∀ b ∈ c :: r, isF (b.toNat : Int) = true) (x : Int) : numT (c :: r) = some x ↔ in64 x ∧ c :: r = txt x 0 := by
  rw [numT_is hd]
  refine parse_iff (s := c :: r) ⟨by simp, fun _ h => ?_, fun h => ?_, fun _ => rfl⟩ 0 x
  · simp only [List.head?_cons, Option.some.injEq] at h
    subst h
    revert hd
    decide
  · have := hF 46 h
    revert this
    decide
end Go.Proofs.YtkfkoopfoiekoaaDoor
